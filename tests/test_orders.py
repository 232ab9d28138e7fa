"""Point 24: sluices that are turned once each."""

import itertools
import random
import unittest

from millsluices.orders import any_order, bad_order, some_order
from millsluices.running import first_running
from millsluices.seasons import Season
from millsluices.settings import differing, turned
from millsluices.valleys import Valley
from millsluices.walks import is_walk
from plain import all_settings, dense_seasons, large_season, only_tuples, random_seasons, walkable

RING = Valley.ring(3)
LOW = Season(RING, needs=[1, 1, 0])


def plain_orders(season, setting, sluices):
    return [order for order in itertools.permutations(sluices) if walkable(season, setting, order)]


def plain_bad_order(season, setting, sluices):
    for many in range(len(sluices) + 1):
        for row in itertools.permutations(sluices, many):
            if not walkable(season, setting, row):
                return row
    return None


class OrdersTest(unittest.TestCase):
    def test_ordinary(self):
        self.assertEqual(some_order(LOW, (0, 0, 0), [0, 1, 2]), (2, 0, 1))
        self.assertEqual(bad_order(LOW, (0, 0, 0), [0, 1, 2]), (0,))
        self.assertIs(any_order(LOW, (0, 0, 0), [0, 1, 2]), False)
        self.assertIs(any_order(Season(RING), (0, 0, 0), [0, 1, 2]), True)
        self.assertIsNone(bad_order(Season(RING), (0, 0, 0), (0, 1, 2)))

    def test_the_empty_set(self):
        self.assertIs(any_order(LOW, (0, 0, 0), ()), True)
        self.assertIsNone(bad_order(LOW, (0, 0, 0), []))
        self.assertEqual(some_order(LOW, (0, 0, 0), []), ())

    def test_settings_that_do_not_run(self):
        for sluices in ((), (0, 1, 2)):
            self.assertIs(any_order(LOW, (0, 1, 1), sluices), False)
            self.assertEqual(bad_order(LOW, [0, 1, 1], sluices), ())
            self.assertIsNone(some_order(LOW, (0, 1, 1), sluices))
        self.assertEqual(bad_order(Season(RING, needs=[2, 2, 0]), (0, 0, 0), ()), ())

    def test_repeated_sluices_count_once(self):
        self.assertEqual(some_order(LOW, [0, 0, 0], [1, 2, 2, 0, 1]), (2, 0, 1))
        self.assertEqual(bad_order(LOW, (0, 0, 0), [2, 0, 0, 2]), (0,))
        self.assertIs(any_order(season=LOW, setting=(0, 0, 0), sluices=[2, 2, 2]), True)

    def test_set_sluices_and_rigid_mills(self):
        season = Season(RING, sides=[(0, 1), (0,), (0, 1)])
        self.assertEqual(bad_order(season, (0, 0, 0), (0, 1, 2)), (1,))
        self.assertIsNone(some_order(season, (0, 0, 0), (0, 1, 2)))
        self.assertEqual(some_order(season, (0, 0, 0), (0, 2)), (0, 2))
        rigid = Season(RING, needs=[1, 0, 0], limits=[1, None, None])
        self.assertEqual(bad_order(rigid, (0, 0, 0), (0, 2)), (0,))
        self.assertIsNone(some_order(rigid, (0, 0, 0), (0, 2)))

    def test_longer_bad_orders(self):
        star = Valley(5, [(0, 1), (0, 2), (0, 3), (0, 4)])
        season = Season(star, needs=[2, 0, 0, 0, 0])
        self.assertEqual(bad_order(season, (0, 0, 0, 0), (3, 1, 2)), (1, 2, 3))
        self.assertIsNone(bad_order(season, (0, 0, 0, 0), (3, 1)))
        self.assertEqual(bad_order(Season(star, limits=[1, None, None, None, None]), (1, 1, 1, 1), (3, 1, 2)), (1, 2))

    def test_very_large_needs_and_limits(self):
        season = Season(RING, limits=[10 ** 50, None, 10 ** 50])
        self.assertIs(any_order(season, (0, 0, 0), (0, 1, 2)), True)
        self.assertEqual(bad_order(Season(RING, needs=[10 ** 50, 0, 0]), (0, 0, 0), (0,)), ())

    def test_against_plain_search(self):
        rng = random.Random(121)
        for season in random_seasons(122, 200) + dense_seasons(123, 40):
            many = len(season.valley)
            for setting in rng.sample(all_settings(season.valley), min(5, 2 ** many)):
                sluices = sorted(rng.sample(range(many), rng.randint(0, min(5, many))))
                good = plain_orders(season, setting, sluices)
                everything = len(list(itertools.permutations(sluices)))
                self.assertEqual(some_order(season, setting, sluices), good[0] if good else None)
                self.assertEqual(any_order(season, setting, sluices), len(good) == everything)
                self.assertEqual(bad_order(season, setting, sluices), plain_bad_order(season, setting, sluices))

    def test_level_patches(self):
        pairs = [(0, 1), (0, 1), (1, 2)]
        one = (0, 1, 1)
        self.assertIsNone(some_order(Season(Valley(3, pairs), needs=[1, 1, 0]), one, (0, 1)))
        self.assertEqual(some_order(Season(Valley(3, pairs), needs=[1, 0, 0]), one, (0, 1)), (1, 0))
        self.assertIsNone(some_order(Season(Valley(3, pairs), limits=[1, 1, 1]), one, (0, 1)))
        self.assertEqual(some_order(Season(Valley(3, pairs), limits=[2, 1, 1]), one, (0, 1)), (1, 0))

    def test_large_seasons(self):
        for seed in range(10):
            season, setting = large_season(seed)
            other = first_running(season)
            sluices = differing(setting, other)
            order = some_order(season, setting, sluices)
            if order is not None:
                self.assertEqual(tuple(sorted(order)), sluices)
                self.assertTrue(is_walk(season, setting, order))
                self.assertTrue(only_tuples(order))
            free = Season(season.valley)
            self.assertEqual(some_order(free, setting, range(48)), tuple(range(48)))
            self.assertTrue(any_order(free, setting, range(48)))
            bad = bad_order(season, setting, range(48))
            self.assertTrue(bad is None or not is_walk(season, setting, bad) and is_walk(season, setting, bad[:-1]))
            self.assertEqual(turned(turned(setting, sluices), sluices), setting)


if __name__ == "__main__":
    unittest.main()
