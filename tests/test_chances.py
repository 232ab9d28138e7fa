"""Point 59: turns by chance."""

import random
import unittest
from fractions import Fraction

from millsluices.chances import chance, share
from millsluices.errors import NotRunning, SluiceError, ValleysDiffer
from millsluices.seasons import Season
from millsluices.valleys import Valley
from plain import all_running, dense_seasons, flip, only_tuples, random_seasons, random_wishes, reach, runs

RING = Valley.ring(3)
LOW = Season(RING, needs=[1, 1, 0])
WISH = Season(RING, needs=[0, 2, 0])
ZERO = (0, 0, 0)


def plain_chance(season, setting, wish, hours):
    """The chance by the rule of a single hour."""
    if hours == 0:
        return Fraction(int(runs(wish, setting)))
    if not setting:
        return plain_chance(season, setting, wish, 0)
    afters = [flip(setting, sluice) for sluice in range(len(setting))]
    return sum(plain_chance(season, after if runs(season, after) else setting, wish, hours - 1)
               for after in afters) / len(setting)


class ChancesTest(unittest.TestCase):
    def test_ordinary(self):
        self.assertEqual(share(LOW, ZERO, WISH), (1, 4))
        self.assertEqual(chance(LOW, ZERO, WISH, 2), (1, 9))
        self.assertEqual(share(season=LOW, setting=[0, 0, 0], wish=WISH), (1, 4))
        self.assertEqual(chance(season=LOW, setting=[0, 0, 0], wish=WISH, hours=2), (1, 9))
        self.assertTrue(only_tuples(share(LOW, [0, 0, 0], WISH)) and only_tuples(chance(LOW, [0, 0, 0], WISH, 2)))

    def test_nought_and_one(self):
        never, always = Season(RING, needs=[4, 0, 0]), Season(RING)
        for hours in (0, 1, 8):
            self.assertEqual(chance(LOW, ZERO, never, hours), (0, 1))
            self.assertEqual(chance(LOW, ZERO, always, hours), (1, 1))
        self.assertEqual((share(LOW, ZERO, never), share(LOW, ZERO, always)), ((0, 1), (1, 1)))

    def test_no_hours_and_eight(self):
        self.assertEqual(chance(LOW, ZERO, WISH, 0), (0, 1))
        self.assertEqual(chance(LOW, (1, 0, 1), WISH, 0), (1, 1))
        self.assertEqual(chance(LOW, ZERO, WISH, 1), (0, 1))
        top, bottom = chance(LOW, ZERO, WISH, 8)
        self.assertEqual(Fraction(top, bottom), plain_chance(LOW, ZERO, WISH, 8))
        coin = Season(Valley.row(2))
        self.assertEqual(chance(coin, (0,), Season(coin.valley, needs=[1, 0]), 8), (1, 1))
        self.assertEqual(chance(coin, (0,), Season(coin.valley, needs=[1, 0]), 7), (0, 1))

    def test_set_sluices_are_drawn_too(self):
        season = Season(Valley(2, [(0, 1), (0, 1)]), sides=[(0, 1), (0,)])
        wish = Season(season.valley, needs=[0, 1])
        self.assertEqual(chance(season, (0, 0), wish, 1), (1, 2))
        self.assertEqual(share(season, (0, 0), wish), (1, 2))

    def test_valleys_without_sluices(self):
        bare = Season(Valley(2))
        for hours in (0, 1, 8):
            self.assertEqual(chance(bare, (), bare, hours), (1, 1))
            self.assertEqual(chance(bare, (), Season(Valley(2), needs=[1, 0]), hours), (0, 1))
        self.assertEqual((share(bare, (), bare), share(bare, (), Season(Valley(2), needs=[0, 1]))), ((1, 1), (0, 1)))

    def test_errors_and_their_order(self):
        other = Season(Valley.ring(4))
        for call in (share, lambda season, setting, wish: chance(season, setting, wish, 3)):
            for setting in (ZERO, (0, 1, 1)):
                with self.assertRaises(ValleysDiffer) as caught:
                    call(LOW, setting, other)
                self.assertIsInstance(caught.exception, SluiceError)
            with self.assertRaises(NotRunning) as caught:
                call(LOW, [0, 1, 1], WISH)
            self.assertEqual(caught.exception.setting, (0, 1, 1))

    def test_against_plain_search(self):
        rng = random.Random(1)
        tops = set()
        for season in random_seasons(2, 120) + dense_seasons(3, 15, mills=3, sluices=5):
            plain = all_running(season)
            for setting in rng.sample(plain, min(2, len(plain))):
                for wish in random_wishes(rng, season, 2):
                    members = reach(season, setting)
                    expected = Fraction(sum(runs(wish, after) for after in members), len(members))
                    self.assertEqual(share(season, setting, wish), (expected.numerator, expected.denominator))
                    tops.add(expected.numerator)
                    hours = rng.choice((0, 1, 2, 3))
                    expected = plain_chance(season, setting, wish, hours)
                    self.assertEqual(chance(season, setting, wish, hours), (expected.numerator, expected.denominator))
        self.assertTrue({0, 1, 2, 3} <= tops)

    def test_ten_sluices(self):
        season = Season(Valley(2, [(0, 1)] * 10))
        wish = Season(season.valley, needs=[0, 8])
        expected = Fraction(10 * 9 * 8 * 7 * 6 * 5 * 4 * 3, 10 ** 8)
        self.assertEqual(chance(season, (0,) * 10, wish, 8), (expected.numerator, expected.denominator))
        self.assertEqual(share(season, (0,) * 10, wish), (7, 128))


if __name__ == "__main__":
    unittest.main()
