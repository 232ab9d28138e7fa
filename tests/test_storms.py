"""Point 41: how soon settings fall, and storm tables."""

import random
import unittest

from millsluices.errors import NotRunning, SluiceError
from millsluices.holding import holds
from millsluices.seasons import Season
from millsluices.storms import falls_within, is_storm_table, storm_table
from millsluices.valleys import Valley
from plain import (all_running, all_settings, as_lists, dense_seasons, only_tuples, plain_days, plain_nights,
                   plain_storm, random_foes, random_seasons, runs, same_as)

WIDE = Season(Valley.ring(3).built([(0, 1)]), needs=[1, 1, 1])
FOUR = Season(Valley(2, [(0, 1)] * 4), needs=[1, 0])
ZERO = (0, 0, 0, 0)


def plain_is_table(season, foes, rows, most, turns, shared):
    """The conditions of a storm table, word for word."""
    for setting, number in rows:
        if number < 1 or not runs(season, setting):
            return False
        lesser = {tuple(other) for other, rank in rows if rank < number}
        for evening in plain_days(season, tuple(setting), foes, turns, shared):
            if not any(not runs(season, after) or after in lesser for after in plain_nights(evening, foes, most)):
                return False
    return True


class StormTest(unittest.TestCase):
    def test_ordinary(self):
        # Each night one more of the sluices is turned away from mill 0.
        settings = [(1, 1, 1, 0), (1, 1, 0, 0), (1, 0, 0, 0), (0, 0, 0, 0)]
        self.assertEqual([falls_within(FOUR, setting, [0, 1, 2, 3]) for setting in settings], [1, 2, 3, 4])
        self.assertEqual([falls_within(FOUR, setting, [0, 1, 2, 3], most=2) for setting in settings], [1, 1, 2, 2])
        self.assertEqual(falls_within(season=FOUR, setting=[1, 1, 1, 0], foes=(3, 2, 1, 0), most=10, turns=0,
                                      shared=False), 1)
        self.assertIsNone(falls_within(FOUR, (1, 1, 1, 0), [0, 1, 2]))
        self.assertIsNone(falls_within(FOUR, (1, 1, 1, 0), [0, 1, 2, 3], shared=True))
        self.assertEqual(falls_within(FOUR, (1, 1, 1, 0), [0, 1, 2, 3], shared=True, turns=0), 1)

    def test_table(self):
        one = Season(Valley(2, [(0, 1)] * 2), needs=[1, 0])
        rows = (((0, 0), 2), ((0, 1), 1), ((1, 0), 1))
        self.assertEqual(storm_table(one, [0, 1]), rows)
        self.assertEqual(storm_table(season=one, foes=(1, 0, 1), most=2, turns=None, shared=False),
                         tuple((setting, 1) for setting, _ in rows))
        self.assertTrue(only_tuples(storm_table(one, [0, 1])))

    def test_no_foes_and_no_nights(self):
        self.assertEqual(storm_table(WIDE, ()), ())
        self.assertEqual(storm_table(WIDE, [0, 1, 2, 3], most=0, turns=0), ())
        self.assertIsNone(falls_within(WIDE, ZERO, []))
        self.assertEqual(storm_table(Season(Valley(2), needs=[1, 0]), []), ())

    def test_all_unset_sluices_are_the_foes(self):
        for turns in (None, 0, 3):
            self.assertEqual(storm_table(FOUR, [0, 1, 2, 3], turns=turns), storm_table(FOUR, [0, 1, 2, 3]))
        self.assertEqual(storm_table(Season(FOUR.valley), [0, 1, 2, 3], most=4), ())

    def test_not_running(self):
        with self.assertRaises(NotRunning) as caught:
            falls_within(WIDE, [0, 1, 1, 0], [], turns=0)
        self.assertEqual(caught.exception.setting, (0, 1, 1, 0))
        self.assertIsInstance(caught.exception, SluiceError)

    def test_against_plain_search(self):
        rng = random.Random(1)
        numbers = set()
        for season in random_seasons(2, 90) + dense_seasons(3, 25, sluices=6):
            foes, most = random_foes(rng, season), rng.choice((0, 1, 1, 2, 10))
            turns, shared = rng.choice((None, 0, 1, 2)), rng.random() < 0.4
            named = {"most": most, "turns": turns, "shared": shared}
            plain = plain_storm(season, foes, most, turns, shared)
            rows = storm_table(season, foes, **named)
            self.assertEqual(rows, tuple(sorted(plain.items())))
            self.assertTrue(plain_is_table(season, foes, rows, most, turns, shared))
            self.assertIs(is_storm_table(season, foes, rows, **named), True)
            running = all_running(season)
            for setting in rng.sample(running, min(3, len(running))):
                number = falls_within(season, setting, foes, **named)
                self.assertEqual(number, plain.get(setting))
                self.assertEqual(number is None, holds(season, setting, foes, **named))
                numbers.add(number)
        self.assertTrue({None, 1, 2} <= numbers)

    def test_ten_sluices(self):
        season = Season(Valley(2, [(0, 1)] * 10), needs=[2, 0])
        rows = storm_table(season, list(range(10)))
        self.assertEqual((len(rows), rows[0]), (1013, ((0,) * 10, 9)))
        self.assertIs(is_storm_table(season, list(range(10)), rows), True)


class TableTest(unittest.TestCase):
    rows = (((1, 0, 0, 0), 3), ((1, 1, 0, 0), 2), ((1, 1, 1, 0), 1), ((1, 1, 0, 1), 1))

    def test_ordinary(self):
        foes = [0, 1, 2, 3]
        self.assertIs(is_storm_table(FOUR, foes, self.rows), True)
        self.assertIs(is_storm_table(FOUR, foes, self.rows, shared=True), False)
        self.assertIs(is_storm_table(FOUR, foes, self.rows, shared=True, turns=0), True)
        self.assertIs(is_storm_table(FOUR, foes, self.rows, most=0), False)
        self.assertIs(is_storm_table(season=FOUR, foes=(0, 1), rows=self.rows, most=1, turns=0, shared=False), False)

    def test_without_rows(self):
        self.assertIs(is_storm_table(FOUR, [], []), True)
        self.assertIs(is_storm_table(FOUR, [0], ()), True)

    def test_rows_exchanged_or_repeated(self):
        self.assertIs(is_storm_table(FOUR, [0, 1, 2, 3], as_lists(self.rows[::-1] + self.rows)), True)
        self.assertIs(is_storm_table(FOUR, [0, 1, 2, 3], [*self.rows, ((1, 1, 1, 0), 8)]), True)

    def test_a_table_need_not_have_all_settings(self):
        self.assertIs(is_storm_table(FOUR, [0, 1, 2, 3], self.rows[1:]), True)
        self.assertIs(is_storm_table(FOUR, [0, 1, 2, 3], self.rows[:1]), False)

    def test_numbers(self):
        for number in (0, -1):
            self.assertIs(is_storm_table(FOUR, [0, 1, 2, 3], [((1, 1, 1, 0), number)]), False)
        for number, good in ((1, False), (2, True), (10 ** 40, True)):
            changed = [((1, 1, 0, 0), number), *self.rows[2:]]
            self.assertIs(is_storm_table(FOUR, [0, 1, 2, 3], changed), good)

    def test_settings_that_do_not_run(self):
        self.assertIs(is_storm_table(FOUR, [0, 1, 2, 3], [((1, 1, 1, 1), 1)]), False)
        self.assertIs(is_storm_table(FOUR, [0, 1, 2, 3], [*self.rows, ((1, 1, 1, 1), 9)]), False)

    def test_changed_tables_against_the_definition(self):
        rng = random.Random(4)
        verdicts = []
        for season in random_seasons(5, 120) + dense_seasons(6, 25, sluices=5):
            foes, most = random_foes(rng, season), rng.choice((0, 1, 1, 2))
            turns, shared = rng.choice((None, 0, 1)), rng.random() < 0.4
            rows = list(plain_storm(season, foes, most, turns, shared).items())
            for _ in range(6):
                changed = [(setting, number + rng.choice((0, 0, 0, 1, 2))) for setting, number in rows
                           if rng.random() < 0.9]
                if rng.random() < 0.4:
                    changed.append((rng.choice(all_settings(season.valley)), rng.randint(0, 3)))
                rng.shuffle(changed)
                verdicts.append(plain_is_table(season, foes, changed, most, turns, shared))
                same_as(self, is_storm_table(season, foes, changed, most=most, turns=turns, shared=shared),
                        verdicts[-1])
        self.assertEqual(set(verdicts), {True, False})


if __name__ == "__main__":
    unittest.main()
