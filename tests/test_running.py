"""Points 13 and 14: obstacles, and the settings that run."""

import unittest

from millsluices.lots import is_obstacle
from millsluices.running import first_running, obstacle, running, running_count
from millsluices.seasons import Season
from millsluices.valleys import Valley
from plain import all_running, dense_seasons, large_season, only_tuples, random_seasons

RING = Valley.ring(3)
BIG = 10 ** 40


class ObstacleTest(unittest.TestCase):
    def test_kinds(self):
        self.assertEqual(obstacle(Season(RING, sides=[(0,), (), (1,)])), ("sluice", 1))
        self.assertEqual(obstacle(Season(RING, needs=[0, 0, 1], limits=[None, None, 0])), ("mill", 2))
        self.assertEqual(obstacle(Season(RING, needs=[2, 2, 0]))[0], "wants")
        self.assertEqual(obstacle(Season(RING, limits=[0, 0, None])), ("bears", (0, 1)))
        self.assertIsNone(obstacle(Season(RING)))

    def test_obstacle_proves_itself(self):
        kinds = {}
        for season in random_seasons(31, 500) + dense_seasons(32, 60):
            found = obstacle(season)
            self.assertEqual(found is None, all_running(season) != [])
            if found is not None:
                kinds[found[0]] = True
                self.assertTrue(is_obstacle(season, found))
                self.assertTrue(only_tuples(found))
                if found[0] in ("wants", "bears"):
                    self.assertEqual(found[1], tuple(sorted(set(found[1]))))
        self.assertEqual(sorted(kinds), ["bears", "mill", "sluice", "wants"])

    def test_very_large_needs_and_limits(self):
        self.assertEqual(obstacle(Season(RING, needs=[BIG, 0, 0])), ("wants", (0,)))
        self.assertIsNone(obstacle(Season(RING, limits=[BIG, BIG, BIG])))
        self.assertEqual(obstacle(Season(RING, needs=[BIG, 0, 0], limits=[BIG - 1, None, None])), ("mill", 0))

    def test_large_seasons(self):
        for seed in range(12):
            season, setting = large_season(seed)
            self.assertIsNone(obstacle(season))
            self.assertTrue(first_running(season) <= setting)
            for wish in (Season(season.valley, needs=[2] * 23 + [3]), Season(season.valley, limits=[2] * 23 + [1])):
                found = obstacle(wish)
                self.assertTrue(is_obstacle(wish, found))
                self.assertIsNone(first_running(wish))


class RunningTest(unittest.TestCase):
    def test_ordinary(self):
        self.assertEqual(list(running(Season(RING, needs=[1, 1, 1]))), [(0, 0, 0), (1, 1, 1)])
        self.assertEqual(running_count(Season(RING)), 8)
        self.assertEqual(first_running(Season(RING, needs=[0, 0, 2])), (0, 1, 0))

    def test_nothing_runs(self):
        for season in (Season(RING, sides=[(0, 1), (), (0, 1)]), Season(RING, needs=[BIG, 0, 0]),
                       Season(RING, needs=[2, 0, 0], limits=[1, None, None]), Season(Valley(1), needs=[1]),
                       Season(RING, limits=[0, 0, 0])):
            self.assertIsNone(first_running(season))
            self.assertEqual(list(running(season)), [])
            self.assertEqual(running_count(season), 0)

    def test_no_sluices(self):
        for season in (Season(Valley(1)), Season(Valley(24), limits=[0] * 24)):
            self.assertEqual(first_running(season), ())
            self.assertEqual(list(running(season)), [()])
            self.assertEqual(running_count(season), 1)

    def test_several_sluices_of_the_same_mills(self):
        season = Season(Valley(2, [(0, 1)] * 4), needs=[2, 1])
        self.assertEqual(list(running(season)), all_running(season))

    def test_against_plain_count(self):
        for season in random_seasons(33, 300) + dense_seasons(34, 60):
            plain = all_running(season)
            self.assertEqual(list(running(season)), plain)
            self.assertEqual(running_count(season), len(plain))
            self.assertEqual(first_running(season), plain[0] if plain else None)

    def test_twelve_unset_sluices_of_48(self):
        season, setting = large_season(5)
        pinned = season.pinned(setting, range(0, 48, 4)).pinned(setting, range(1, 48, 4))
        pinned = pinned.pinned(setting, range(2, 48, 4))
        found = list(running(pinned))
        self.assertTrue(setting in found)
        self.assertEqual(found, sorted(set(found)))
        self.assertTrue(all(other in pinned for other in found))
        self.assertEqual(running_count(pinned), len(found))
        self.assertEqual(found[0], first_running(pinned))
        free = Season(season.valley).pinned(setting, range(12, 48))
        self.assertEqual(running_count(free), 4096)

    def test_first_running_of_large_seasons_is_first(self):
        for seed in range(6):
            season, _ = large_season(seed)
            first = first_running(season)
            self.assertTrue(first in season)
            for sluice, side in enumerate(first):
                if side == 1 and 0 in season.sides[sluice]:
                    lesser = (*first[:sluice], 0, *first[sluice + 1:])
                    self.assertIsNone(obstacle(season.pinned(first, range(sluice))))
                    self.assertIsNotNone(obstacle(season.pinned(lesser, range(sluice + 1))))

    def test_generators_broken_off_and_side_by_side(self):
        season = Season(RING, needs=[1, 1, 0])
        one, two = running(season), running(season)
        self.assertEqual([next(one), next(two), next(one)], [(0, 0, 0), (0, 0, 0), (0, 0, 1)])
        one.close()
        self.assertEqual(list(two), [(0, 0, 1), (1, 0, 1), (1, 1, 1)])
        self.assertEqual(list(running(season)), [(0, 0, 0), (0, 0, 1), (1, 0, 1), (1, 1, 1)])


if __name__ == "__main__":
    unittest.main()
