"""Point 55: new sluices, so that something runs."""

import itertools
import random
import unittest

from millsluices.building import mending, shortfall, wanting_lot
from millsluices.errors import HasLimits, NoSide, SluiceError
from millsluices.lots import gain, want
from millsluices.running import first_running
from millsluices.seasons import Season
from millsluices.valleys import Valley
from plain import all_lots, all_pairs, all_running, only_tuples, random_open_season, random_season

RING = Valley.ring(3)
CALLS = (shortfall, wanting_lot, mending)


def plain_gain(season, lot):
    return sum(any(pair[side] in lot for side in let) for pair, let in zip(season.valley.sluices, season.sides))


def plain_shortfall(season):
    return max(sum(season.needs[mill] for mill in lot) - plain_gain(season, lot)
               for lot in all_lots(season.valley.mills))


class BuildingTest(unittest.TestCase):
    def check(self, season, number):
        self.assertEqual(shortfall(season), number)
        lot = wanting_lot(season)
        self.assertEqual(lot, tuple(sorted(set(lot))))
        self.assertEqual(want(season, lot) - gain(season, lot), number)
        pairs = mending(season)
        self.assertEqual(len(pairs), number)
        self.assertTrue(only_tuples(pairs) and only_tuples(lot))
        self.assertIsNotNone(first_running(season.built(pairs)))

    def test_ordinary(self):
        self.check(Season(RING, needs=[2, 2, 1]), 2)
        self.check(Season(RING, needs=[3, 0, 0]), 1)
        self.assertEqual(shortfall(season=Season(RING, needs=[2, 2, 1])), 2)
        self.assertEqual(wanting_lot(season=Season(RING, needs=[2, 2, 1])), (0, 1, 2))

    def test_nothing_lacks(self):
        for season in (Season(RING), Season(RING, needs=[1, 1, 1]), Season(Valley(2))):
            self.check(season, 0)
            self.assertEqual(mending(season), ())

    def test_needs_that_only_new_sluices_meet(self):
        self.check(Season(Valley(2), needs=[0, 3]), 3)
        self.check(Season(Valley(3), needs=[4, 4, 12]), 20)
        self.check(Season(Valley.row(2), needs=[0, 2], sides=[(0,)]), 2)

    def test_the_number_is_the_greatest_of_any_lot(self):
        season = Season(Valley.row(4), needs=[0, 3, 0, 1])
        self.check(season, 1)
        self.check(Season(Valley.row(4), needs=[2, 0, 0, 2]), 2)
        self.check(Season(Valley.row(4), needs=[2, 1, 1, 2]), 3)

    def test_limits(self):
        none = Season(RING, limits=[None, 4, 0], sides=[(), (0, 1), ()])
        for call in CALLS:
            with self.assertRaises(HasLimits) as caught:
                call(none)
            self.assertEqual(caught.exception.mill, 1)
            self.assertIsInstance(caught.exception, SluiceError)
        for limits in ([0, 0, 0], [10 ** 20, None, None]):
            with self.assertRaises(HasLimits) as caught:
                shortfall(Season(RING, limits=limits))
            self.assertEqual(caught.exception.mill, 0)

    def test_sluices_without_sides(self):
        for call in CALLS:
            with self.assertRaises(NoSide) as caught:
                call(Season(RING, needs=[9, 0, 0], sides=[(0, 1), (), ()]))
            self.assertEqual(caught.exception.sluice, 1)
            self.assertIsInstance(caught.exception, SluiceError)

    def test_against_plain_search(self):
        rng = random.Random(1)
        numbers = set()
        for _ in range(250):
            season = random_open_season(rng, lack=3)
            number = plain_shortfall(season)
            self.check(season, number)
            numbers.add(number)
            self.assertEqual(number == 0, bool(all_running(season)))
            if number == 2:
                self.assertFalse(any(all_running(season.built([pair])) for pair in all_pairs(season.valley.mills)))
        self.assertEqual(numbers, {0, 1, 2, 3})

    def test_other_seasons_against_plain_search(self):
        rng = random.Random(2)
        for _ in range(100):
            season = random_season(rng, tight=0)
            if season.valley.mills > 1 and () not in season.sides:
                self.check(season, plain_shortfall(season))

    def test_bounds(self):
        rng = random.Random(3)
        for mills, many in itertools.product((2, 12, 24), (10, 20)):
            valley = Valley(mills, [rng.sample(range(mills), 2) for _ in range(many)])
            needs = [0] * mills
            for _ in range(20):
                needs[rng.choice((0, rng.randrange(mills)))] += 1
            season = Season(valley, needs=needs)
            number = shortfall(season)
            self.assertTrue(number > 0 or many == 20)
            self.check(season, number)


if __name__ == "__main__":
    unittest.main()
