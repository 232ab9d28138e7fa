"""Point 43: sluices of the foe that must be bought."""

import itertools
import random
import unittest

from millsluices.buying import fewest_to_buy
from millsluices.errors import NotRunning, SluiceError
from millsluices.holding import holds
from millsluices.seasons import Season
from millsluices.valleys import Valley
from plain import all_running, dense_seasons, only_tuples, plain_storm, random_foes, random_seasons

WIDE = Season(Valley.ring(3).built([(0, 1)]), needs=[1, 1, 1])
FOUR = Season(Valley(2, [(0, 1)] * 4), needs=[1, 0])
ZERO = (0, 0, 0, 0)


def plain_bought(season, setting, foes, most, turns):
    foes = sorted(set(foes))
    for many in range(len(foes) + 1):
        for bought in itertools.combinations(foes, many):
            left = [sluice for sluice in foes if sluice not in bought]
            if setting not in plain_storm(season, left, most, turns, False):
                return bought
    raise AssertionError("without foes every running setting holds")


class BuyingTest(unittest.TestCase):
    def test_ordinary(self):
        self.assertEqual(fewest_to_buy(FOUR, ZERO, [0, 1, 2, 3]), (0,))
        self.assertEqual(fewest_to_buy(FOUR, (1, 1, 1, 0), [3, 2, 1, 0, 3]), (0,))
        self.assertEqual(fewest_to_buy(FOUR, (1, 1, 1, 0), [0, 1, 2, 3], turns=0), (3,))
        self.assertEqual(fewest_to_buy(season=FOUR, setting=[1, 1, 0, 0], foes=(0, 1, 2, 3), most=2, turns=0), (2,))
        self.assertTrue(only_tuples(fewest_to_buy(FOUR, [0, 0, 0, 0], [0, 1, 2, 3])))

    def test_several_are_needed(self):
        season = Season(Valley(2, [(0, 1)] * 4), needs=[2, 0])
        self.assertEqual(fewest_to_buy(season, ZERO, [0, 1, 2, 3]), (0, 1))
        self.assertEqual(fewest_to_buy(season, (1, 0, 1, 0), [0, 1, 2, 3], turns=0), (1, 3))
        rigid = Season(season.valley, needs=[2, 2])
        self.assertEqual(fewest_to_buy(rigid, (1, 0, 1, 0), [0, 1, 2, 3]), (0, 1, 2, 3))

    def test_nothing_to_buy(self):
        self.assertEqual(fewest_to_buy(WIDE, ZERO, []), ())
        self.assertEqual(fewest_to_buy(WIDE, ZERO, [0]), ())
        self.assertEqual(fewest_to_buy(WIDE, ZERO, [0, 1, 2, 3], most=0, turns=0), ())
        self.assertEqual(fewest_to_buy(Season(WIDE.valley), ZERO, [0, 1, 2, 3], most=10), ())

    def test_not_running(self):
        for foes in ([], [0, 1]):
            with self.assertRaises(NotRunning) as caught:
                fewest_to_buy(WIDE, [0, 1, 1, 0], foes)
            self.assertEqual(caught.exception.setting, (0, 1, 1, 0))
            self.assertIsInstance(caught.exception, SluiceError)

    def test_against_plain_search(self):
        rng = random.Random(1)
        sizes = set()
        for season in random_seasons(2, 60) + dense_seasons(3, 15, sluices=5):
            foes, most, turns = random_foes(rng, season), rng.choice((0, 1, 1, 2)), rng.choice((None, 0, 1))
            plain = all_running(season)
            for setting in rng.sample(plain, min(2, len(plain))):
                bought = fewest_to_buy(season, setting, foes, most=most, turns=turns)
                self.assertEqual(bought, plain_bought(season, setting, foes, most, turns))
                self.assertEqual(bought == (), holds(season, setting, foes, most=most, turns=turns))
                sizes.add(len(bought))
        self.assertTrue({0, 1, 2} <= sizes)

    def test_ten_sluices(self):
        season = Season(Valley(2, [(0, 1)] * 10), needs=[5, 0])
        self.assertEqual(fewest_to_buy(season, (0,) * 10, list(range(10))), (0, 1, 2, 3, 4))


if __name__ == "__main__":
    unittest.main()
