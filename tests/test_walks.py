"""Point 17: walks."""

import random
import unittest

from millsluices.errors import BadWalk, NotRunning
from millsluices.seasons import Season
from millsluices.valleys import Valley
from millsluices.walks import follow, is_walk, turnable
from plain import all_running, all_settings, flip, large_season, only_tuples, random_seasons, runs, walkable

RING = Valley.ring(3)
LOW = Season(RING, needs=[1, 1, 0])


class WalksTest(unittest.TestCase):
    def test_is_walk(self):
        self.assertIs(is_walk(LOW, (0, 0, 0), [2, 0]), True)
        self.assertIs(is_walk(LOW, (0, 0, 0), [2, 1]), False)
        self.assertIs(is_walk(LOW, (0, 0, 0), [0, 2]), False)
        self.assertIs(is_walk(LOW, [0, 0, 0], ()), True)
        self.assertIs(is_walk(LOW, (0, 1, 1), ()), False)
        self.assertIs(is_walk(LOW, (0, 1, 1), [1]), False)
        self.assertIs(is_walk(LOW, (0, 0, 0), [2, 2, 2, 2]), True)
        self.assertIs(is_walk(Season(Valley(1)), (), ()), True)

    def test_set_sluices_are_not_turned(self):
        season = Season(RING, sides=[(0, 1), (0,), (1,)])
        self.assertIs(is_walk(season, (0, 0, 1), [0, 0]), True)
        self.assertIs(is_walk(season, (0, 0, 1), [1]), False)

    def test_follow(self):
        found = follow(LOW, [0, 0, 0], [2, 0])
        self.assertEqual(found, ((0, 0, 0), (0, 0, 1), (1, 0, 1)))
        self.assertTrue(only_tuples(found))
        self.assertEqual(follow(season=LOW, setting=(1, 0, 1), turns=()), ((1, 0, 1),))

    def test_follow_errors(self):
        with self.assertRaises(NotRunning) as caught:
            follow(LOW, [0, 1, 1], [0])
        self.assertEqual(caught.exception.setting, (0, 1, 1))
        self.assertTrue(only_tuples(caught.exception.setting))
        for turns, index in (([2, 1], 1), ([0], 0), ([2, 2, 1, 0], 2)):
            with self.assertRaises(BadWalk) as caught:
                follow(LOW, (0, 0, 0), turns)
            self.assertEqual(caught.exception.index, index)

    def test_turnable(self):
        self.assertEqual(turnable(LOW, (0, 0, 0)), (2,))
        self.assertEqual(turnable(LOW, [0, 0, 1]), (0, 2))
        self.assertEqual(turnable(Season(Valley(2)), ()), ())
        self.assertEqual(turnable(Season(RING, limits=[1, None, None]), (0, 0, 0)), (0, 1))
        with self.assertRaises(NotRunning) as caught:
            turnable(LOW, (0, 1, 1))
        self.assertEqual(caught.exception.setting, (0, 1, 1))

    def test_against_plain_search(self):
        rng = random.Random(61)
        for season in random_seasons(62, 150):
            for setting in all_settings(season.valley):
                turns = [rng.randrange(len(setting)) for _ in range(4)] if setting else []
                self.assertEqual(is_walk(season, setting, turns), walkable(season, setting, turns))
            for setting in all_running(season):
                plain = tuple(at for at in range(len(setting)) if runs(season, flip(setting, at)))
                self.assertEqual(turnable(season, setting), plain)

    def test_large_season(self):
        season, setting = large_season(4)
        plain = tuple(at for at in range(48) if runs(season, flip(setting, at)))
        self.assertEqual(turnable(season, setting), plain)
        self.assertEqual(len(follow(season, setting, [plain[0]] * 20)), 21)


if __name__ == "__main__":
    unittest.main()
