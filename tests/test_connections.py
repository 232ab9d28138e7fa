"""Point 20: connections."""

import unittest

from millsluices.connections import Connection, connect
from millsluices.errors import NotRunning
from millsluices.running import first_running
from millsluices.seasons import Season
from millsluices.settings import turned
from millsluices.stuckness import stuck
from millsluices.valleys import Valley
from millsluices.walks import is_walk
from plain import all_running, dense_seasons, large_season, only_tuples, random_seasons, reach, walkable

RING = Valley.ring(3)


class ConnectTest(unittest.TestCase):
    def check(self, season, one, two):
        """The connection proves itself; return whether the settings are joined."""
        found = connect(season, one, two)
        self.assertIsInstance(found, Connection)
        apart = [at for at in range(len(one)) if one[at] != two[at]]
        blocked = tuple(at for at in apart if at in stuck(season, one))
        self.assertEqual((found.joined, found.blocked), (not blocked, blocked))
        self.assertTrue(only_tuples((found.joined, found.turns, found.blocked)))
        if found.joined:
            self.assertTrue(is_walk(season, one, found.turns))
            self.assertEqual(turned(one, found.turns), two)
            self.assertTrue(len(found.turns) <= season.valley.mills * len(apart))
        else:
            self.assertEqual(found.turns, ())
        return found.joined

    def test_ordinary(self):
        self.assertIs(self.check(Season(RING, needs=[1, 1, 0]), (0, 0, 0), (1, 1, 1)), True)
        self.assertIs(self.check(Season(RING, needs=[1, 1, 1]), (0, 0, 0), (1, 1, 1)), False)

    def test_equal_settings(self):
        for season in (Season(RING), Season(RING, needs=[1, 1, 1])):
            found = connect(season, (0, 0, 0), [0, 0, 0])
            self.assertEqual((found.joined, found.turns, found.blocked), (True, (), ()))
        self.assertTrue(self.check(Season(Valley(1)), (), ()))

    def test_set_sluices_and_rigid_mills(self):
        season = Season(RING, needs=[1, 0, 0], limits=[1, None, None])
        self.assertFalse(self.check(season, (0, 0, 0), (1, 1, 1)))
        self.assertTrue(self.check(season, (0, 0, 0), (0, 1, 0)))
        self.assertTrue(self.check(Season(RING, sides=[(0,), (0, 1), (0, 1)]), (0, 0, 0), (0, 1, 1)))

    def test_errors(self):
        season = Season(RING, needs=[1, 1, 1])
        with self.assertRaises(NotRunning) as caught:
            connect(season, [0, 1, 1], (0, 0, 1))
        self.assertEqual(caught.exception.setting, (0, 1, 1))
        with self.assertRaises(NotRunning) as caught:
            connect(season=season, one=(0, 0, 0), two=[0, 0, 1])
        self.assertEqual(caught.exception.setting, (0, 0, 1))
        with self.assertRaises(NotRunning):
            connect(season, (0, 1, 1), (0, 1, 1))

    def test_against_plain_search(self):
        for season in random_seasons(81, 150) + dense_seasons(82, 25) + dense_seasons(83, 15, mills=5, sluices=6):
            plain = all_running(season)
            for one in plain[:5]:
                members = reach(season, one)
                for two in plain:
                    self.assertEqual(self.check(season, one, two), two in members)

    def test_spare_from_far_away(self):
        pairs = [(0, 1), (0, 1)] + [(mill, mill + 1) for mill in range(1, 23)]
        season = Season(Valley(24, pairs), needs=[1] * 23 + [0])
        one, two = (0, 1) + (1,) * 22, (1, 0) + (1,) * 22
        self.assertTrue(self.check(season, one, two))
        self.assertEqual(len(connect(season, one, two).turns), 46)

    def test_room_from_far_away(self):
        pairs = [(0, 1), (0, 1)] + [(mill, mill + 1) for mill in range(1, 23)]
        season = Season(Valley(24, pairs), limits=[1, 2] + [1] * 22)
        one, two = (0, 1) + (0,) * 22, (1, 0) + (0,) * 22
        self.assertTrue(self.check(season, one, two))
        self.assertEqual(len(connect(season, one, two).turns), 46)

    def test_several_level_patches(self):
        pairs = [(0, 1), (0, 1), (2, 3), (2, 3), (1, 2), (3, 4), (4, 5)]
        season = Season(Valley(6, pairs), needs=[1, 1, 1, 1, 1, 0])
        one = (0, 1, 0, 1, 1, 1, 1)
        self.assertEqual(season.out(one), ())
        self.assertTrue(self.check(season, one, (1, 0, 1, 0, 1, 1, 1)))
        self.assertTrue(walkable(season, one, connect(season, one, (1, 0, 1, 0, 1, 1, 1)).turns))

    def test_large_seasons(self):
        joined = []
        for seed in range(20):
            season, setting = large_season(seed, slack=1 + seed % 2)
            other = first_running(season)
            joined.append(self.check(season, setting, other))
            joined.append(self.check(season, other, setting))
        self.assertEqual(sorted(set(joined)), [False, True])

    def test_round_turned_whole(self):
        season = Season(Valley.ring(24), needs=[1] * 23 + [0])
        self.assertTrue(self.check(season, (0,) * 24, (1,) * 24))
        self.assertFalse(self.check(Season(Valley.ring(24), needs=[1] * 24), (0,) * 24, (1,) * 24))


if __name__ == "__main__":
    unittest.main()
