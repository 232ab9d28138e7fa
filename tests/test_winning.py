"""Point 42: how soon a wish can be met against a foe."""

import random
import unittest

from millsluices.errors import NotRunning, SluiceError, ValleysDiffer
from millsluices.seasons import Season
from millsluices.valleys import Valley
from millsluices.winning import wins_after
from plain import (all_running, dense_seasons, plain_days, plain_nights, random_foes, random_seasons, random_wishes,
                   runs)

WIDE = Season(Valley.ring(3).built([(0, 1)]), needs=[1, 1, 1])
WISH = Season(WIDE.valley, needs=[1, 2, 1])
ZERO = (0, 0, 0, 0)
LINE = Valley(2, [(0, 1)] * 4)


def plain_numbers(season, wish, foes, most, turns, shared):
    """The number of each running setting that has one, as the document defines it."""
    days = {setting: plain_days(season, setting, foes, turns, shared) for setting in all_running(season)}
    numbers = {setting: 0 for setting, evenings in days.items() if any(runs(wish, evening) for evening in evenings)}
    while True:
        more = {}
        for setting, evenings in days.items():
            ends = [max(numbers[after] for after in plain_nights(evening, foes, most)) for evening in evenings
                    if all(after in numbers for after in plain_nights(evening, foes, most))]
            if setting not in numbers and ends:
                more[setting] = min(ends) + 1
        if not more:
            return numbers
        numbers.update(more)


class WinningTest(unittest.TestCase):
    def test_met_at_once(self):
        self.assertEqual(wins_after(WIDE, WISH, ZERO, [0]), 0)
        self.assertEqual(wins_after(WIDE, WISH, [0, 0, 0, 1], [0, 1, 2, 3], most=4), 0)
        self.assertEqual(wins_after(season=WIDE, wish=WIDE, setting=ZERO, foes=(), most=0, turns=0, shared=True), 0)

    def test_a_few_nights_are_needed(self):
        season = Season(LINE)
        wish = Season(LINE, needs=[4, 0])
        for number, setting in enumerate([(0,) * 4, (1, 0, 0, 0), (1, 1, 0, 0), (1, 1, 1, 0), (1,) * 4]):
            self.assertEqual(wins_after(season, wish, setting, [], turns=1), max(0, number - 1))
            self.assertEqual(wins_after(season, wish, setting, [], turns=2), max(0, (number - 1) // 2))
            self.assertEqual(wins_after(season, wish, setting, [], turns=None), 0)

    def test_never(self):
        self.assertIsNone(wins_after(WIDE, Season(WIDE.valley, needs=[2, 2, 1]), ZERO, []))
        self.assertIsNone(wins_after(Season(LINE), Season(LINE, needs=[4, 0]), (1, 1, 0, 0), [], turns=0))
        self.assertIsNone(wins_after(Season(LINE), Season(LINE, needs=[4, 0]), (0, 1, 0, 0), [1]))
        self.assertEqual(wins_after(Season(LINE), Season(LINE, needs=[4, 0]), (0, 1, 0, 0), [1], shared=True), 0)

    def test_settings_after_a_night_must_run(self):
        # The foe could bring a mill to a stop before the wish can be met.
        season = Season(LINE, needs=[0, 1])
        wish = Season(LINE, limits=[0, None])
        self.assertEqual(wins_after(season, wish, (0, 0, 1, 1), [], turns=1), 1)
        self.assertIsNone(wins_after(season, wish, (0, 0, 0, 1), [3], turns=1))
        self.assertIsNone(wins_after(season, wish, (0, 0, 1, 1), [2, 3], most=2, turns=1))

    def test_all_unset_sluices_are_the_foes(self):
        self.assertIsNone(wins_after(Season(LINE), Season(LINE, needs=[1, 3]), (0,) * 4, [0, 1, 2, 3]))
        self.assertEqual(wins_after(Season(LINE), Season(LINE, needs=[1, 3]), (0,) * 4, [0, 1, 2, 3], turns=2,
                                    shared=True), 1)
        self.assertEqual(wins_after(Season(LINE), Season(LINE), (0,) * 4, [0, 1, 2, 3]), 0)

    def test_errors_and_their_order(self):
        other = Season(Valley.ring(4))
        for setting in (ZERO, (0, 1, 1, 0)):
            with self.assertRaises(ValleysDiffer) as caught:
                wins_after(WIDE, other, setting, [])
            self.assertIsInstance(caught.exception, SluiceError)
        with self.assertRaises(NotRunning) as caught:
            wins_after(WIDE, WISH, [0, 1, 1, 0], [])
        self.assertEqual(caught.exception.setting, (0, 1, 1, 0))

    def test_against_plain_search(self):
        rng = random.Random(1)
        numbers = set()
        for season in random_seasons(2, 90) + dense_seasons(3, 40, sluices=5):
            foes, most = random_foes(rng, season), rng.choice((0, 1, 1, 2))
            turns, shared = rng.choice((None, 0, 1, 1)), rng.random() < 0.4
            for wish in random_wishes(rng, season, 3):
                plain = plain_numbers(season, wish, foes, most, turns, shared)
                for setting in all_running(season)[:8]:
                    number = wins_after(season, wish, setting, foes, most=most, turns=turns, shared=shared)
                    self.assertEqual(number, plain.get(setting))
                    numbers.add(number)
        self.assertTrue({None, 0, 1, 2} <= numbers)

    def test_ten_sluices(self):
        valley = Valley(2, [(0, 1)] * 10)
        wish = Season(valley, needs=[7, 0])
        self.assertEqual(wins_after(Season(valley), wish, (1,) * 10, [0], turns=2), 3)
        self.assertEqual(wins_after(Season(valley), wish, (1,) * 10, [0], turns=1), 6)
        self.assertIsNone(wins_after(Season(valley), wish, (1,) * 10, [0, 1, 2, 3], most=4))


if __name__ == "__main__":
    unittest.main()
