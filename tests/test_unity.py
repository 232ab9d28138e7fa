"""Point 23: unity."""

import unittest

from millsluices.connections import connect
from millsluices.errors import NothingRuns
from millsluices.seasons import Season
from millsluices.unity import Unity, unity
from millsluices.valleys import Valley
from plain import class_list, dense_seasons, large_season, only_tuples, random_seasons

RING = Valley.ring(3)


class UnityTest(unittest.TestCase):
    def check(self, season):
        found = unity(season)
        self.assertIsInstance(found, Unity)
        self.assertTrue(only_tuples((found.single, found.one, found.two)))
        if found.single:
            self.assertEqual((found.one, found.two), (None, None))
        else:
            self.assertFalse(connect(season, found.one, found.two).joined)
        return found.single

    def test_ordinary(self):
        self.assertIs(self.check(Season(RING, needs=[1, 1, 0])), True)
        self.assertIs(self.check(Season(RING, needs=[1, 1, 1])), False)
        self.assertIs(self.check(Season(Valley(1))), True)

    def test_one_running_setting_that_is_stuck(self):
        self.assertIs(self.check(Season.only(RING, (0, 1, 0))), True)
        self.assertIs(self.check(Season(Valley.row(3), needs=[1, 1, 0], limits=[1, 1, 0])), True)

    def test_nothing_runs(self):
        for season in (Season(RING, needs=[2, 2, 0]), Season(RING, sides=[(), (0,), (1,)]), Season(Valley(1), needs=[1])):
            with self.assertRaises(NothingRuns):
                unity(season=season)

    def test_against_plain_search(self):
        found = []
        for season in random_seasons(111, 200) + dense_seasons(112, 30):
            plain = class_list(season)
            if plain:
                found.append(self.check(season))
                self.assertEqual(found[-1], len(plain) == 1)
        self.assertEqual(sorted(set(found)), [False, True])

    def test_large_seasons(self):
        found = [self.check(large_season(seed, slack=1 + seed % 2)[0]) for seed in range(8)]
        self.assertEqual(sorted(set(found)), [False, True])
        self.assertTrue(self.check(Season(Valley.ring(24))))
        self.assertFalse(self.check(Season(Valley.ring(24), needs=[1] * 24)))


if __name__ == "__main__":
    unittest.main()
