"""Point 22: classes."""

import unittest

from millsluices.classes import class_key, class_season, class_size, classes, first_in_class
from millsluices.errors import NotRunning
from millsluices.seasons import Season
from millsluices.stuckness import stuck
from millsluices.valleys import Valley
from plain import all_running, class_list, dense_seasons, large_season, only_tuples, random_seasons

RING = Valley.ring(3)


class ClassesTest(unittest.TestCase):
    season = Season(RING, needs=[1, 1, 1])
    low = Season(RING, needs=[1, 1, 0])

    def test_ordinary(self):
        self.assertEqual(class_key(self.season, (1, 1, 1)), ((0, 1), (1, 1), (2, 1)))
        self.assertEqual(class_key(self.low, [1, 1, 1]), ())
        self.assertEqual(class_season(self.season, (1, 1, 1)), self.season.pinned((1, 1, 1), (0, 1, 2)))
        self.assertEqual(first_in_class(self.low, (1, 1, 1)), (0, 0, 0))
        self.assertEqual(first_in_class(self.season, (1, 1, 1)), (1, 1, 1))
        self.assertEqual((class_size(self.low, (0, 0, 1)), class_size(self.season, (0, 0, 0))), (4, 1))
        self.assertEqual(list(classes(self.low)), [(0, 0, 0)])
        self.assertEqual(list(classes(self.season)), [(0, 0, 0), (1, 1, 1)])

    def test_nothing_runs(self):
        self.assertEqual(list(classes(Season(RING, needs=[2, 2, 0]))), [])
        self.assertEqual(list(classes(Season(RING, sides=[(), (0,), (0,)]))), [])

    def test_no_sluices(self):
        self.assertEqual(list(classes(Season(Valley(1)))), [()])
        self.assertEqual((class_key(Season(Valley(1)), ()), class_size(Season(Valley(1)), ())), ((), 1))

    def test_set_sluices_and_rigid_mills(self):
        season = Season(RING, needs=[1, 0, 0], limits=[1, None, None], sides=[(0, 1), (0,), (0, 1)])
        self.assertEqual(class_key(season, (0, 0, 0)), ((0, 0), (1, 0), (2, 0)))
        self.assertEqual(list(classes(season)), [(0, 0, 0), (1, 0, 1)])

    def test_not_running(self):
        for call in (class_key, class_season, first_in_class, class_size):
            with self.assertRaises(NotRunning) as caught:
                call(self.season, [0, 1, 1])
            self.assertEqual(caught.exception.setting, (0, 1, 1))

    def test_generator_broken_off_and_side_by_side(self):
        one, two = classes(self.season), classes(self.season)
        self.assertEqual([next(one), next(two), next(two)], [(0, 0, 0), (0, 0, 0), (1, 1, 1)])
        one.close()
        self.assertEqual(list(classes(self.season)), [(0, 0, 0), (1, 1, 1)])

    def test_against_plain_search(self):
        for season in random_seasons(101, 150) + dense_seasons(102, 20):
            plain = class_list(season)
            self.assertEqual(list(classes(season)), [members[0] for members in plain])
            keys = [class_key(season, setting) for setting in all_running(season)]
            self.assertEqual(len(set(keys)), len(plain))
            for members in plain:
                for setting in members[:3]:
                    self.assertEqual(class_key(season, setting), class_key(season, members[0]))
                    self.assertEqual(class_size(season, setting), len(members))
                    self.assertEqual(first_in_class(season, setting), members[0])
                    self.assertEqual(all_running(class_season(season, setting)), members)

    def test_large_season(self):
        for seed in range(4):
            season, setting = large_season(seed)
            hindering = stuck(season, setting)
            self.assertEqual(class_key(season, setting), tuple((at, setting[at]) for at in hindering))
            first = first_in_class(season, setting)
            self.assertTrue(first in class_season(season, setting) and first <= setting)
            self.assertEqual(class_key(season, first), class_key(season, setting))
            self.assertTrue(only_tuples(class_key(season, list(setting))))
            few = season.pinned(setting, range(12, 48))
            self.assertTrue(1 <= class_size(few, setting) <= 4096)


if __name__ == "__main__":
    unittest.main()
