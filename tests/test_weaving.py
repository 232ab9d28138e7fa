"""Point 53: several hands."""

import math
import random
import unittest

from millsluices.seasons import Season
from millsluices.valleys import Valley
from millsluices.weaving import always_safe, bad_weaving, safe_weaving, setting_at, weaving_count
from plain import (all_settings, dense_seasons, flips, is_whole, large_season, only_tuples, random_rows, random_seasons,
                   same_as, walkable, weavings, woven)

RING = Valley.ring(3)
NEEDY = Season(RING, needs=[1, 0, 0])
UP = (0, 0, 1)
ROWS = ((0,), (2, 2))


class SettingAtTest(unittest.TestCase):
    def test_ordinary(self):
        self.assertEqual(setting_at(UP, ROWS, (0, 0)), UP)
        self.assertEqual(setting_at([0, 0, 1], [[0], [2, 2]], [1, 1]), (1, 0, 0))
        self.assertEqual(setting_at(setting=UP, rows=ROWS, position=(1, 2)), (1, 0, 1))
        self.assertTrue(only_tuples(setting_at([0, 0, 1], [[0], [2, 2]], [1, 1])))

    def test_the_same_sluice_in_several_hands(self):
        rows = ((0, 1, 0), (0,), (), (1, 1, 1))
        self.assertEqual(setting_at((0, 0), rows, (2, 1, 0, 2)), (0, 1))
        self.assertEqual(setting_at((0, 0), rows, (3, 1, 0, 3)), (1, 0))


class WeavingTest(unittest.TestCase):
    def test_ordinary(self):
        self.assertEqual(bad_weaving(NEEDY, UP, [[0], [2, 2]]), (0, 1))
        self.assertEqual(safe_weaving(NEEDY, [0, 0, 1], [[0], [2, 2]]), (1, 1, 0))
        self.assertIs(always_safe(season=NEEDY, setting=UP, rows=ROWS), False)
        self.assertEqual(weaving_count(season=NEEDY, setting=UP, rows=ROWS), 1)
        self.assertTrue(only_tuples(bad_weaving(NEEDY, [0, 0, 1], [[0], [2, 2]])))
        self.assertTrue(only_tuples(safe_weaving(NEEDY, [0, 0, 1], [[0], [2, 2]])))

    def test_all_safe(self):
        free = Season(RING)
        self.assertIs(always_safe(free, UP, ROWS), True)
        self.assertIsNone(bad_weaving(free, UP, ROWS))
        self.assertEqual(safe_weaving(free, UP, ROWS), (0, 1, 1))
        self.assertEqual(weaving_count(free, UP, ROWS), 3)

    def test_none_safe(self):
        rows = [[0, 2], [2, 0]]
        self.assertEqual(bad_weaving(NEEDY, (0, 0, 0), rows), (0,))
        for setting in ((0, 0, 0), (1, 0, 1)):
            self.assertIsNone(safe_weaving(NEEDY, setting, [[0, 2], [0]] if setting[0] == 0 else [[2]]))
            self.assertEqual(weaving_count(NEEDY, setting, [[0, 2], [0]] if setting[0] == 0 else [[2]]), 0)

    def test_setting_that_does_not_run(self):
        for rows in (ROWS, ((),), ((), ())):
            self.assertIs(always_safe(NEEDY, (1, 0, 0), rows), False)
            self.assertEqual(bad_weaving(NEEDY, (1, 0, 0), rows), ())
            self.assertIsNone(safe_weaving(NEEDY, (1, 0, 0), rows))
            self.assertEqual(weaving_count(NEEDY, (1, 0, 0), rows), 0)

    def test_rows_without_turns(self):
        for rows in (((),), ((), (), (), ())):
            self.assertIs(always_safe(NEEDY, UP, rows), True)
            self.assertIsNone(bad_weaving(NEEDY, UP, rows))
            self.assertEqual(safe_weaving(NEEDY, UP, rows), ())
            self.assertEqual(weaving_count(NEEDY, UP, rows), 1)
        self.assertEqual(safe_weaving(NEEDY, UP, [[], [0], []]), (1,))
        self.assertEqual(bad_weaving(NEEDY, (0, 0, 0), [[], [], [0]]), (2,))

    def test_one_hand(self):
        low = Season(RING, needs=[1, 1, 0])
        self.assertEqual(safe_weaving(low, (0, 0, 0), [[2, 0, 1]]), (0, 0, 0))
        self.assertEqual(bad_weaving(low, (0, 0, 0), [[2, 1, 0]]), (0, 0))
        self.assertEqual((weaving_count(low, (0, 0, 0), [[2, 0, 1]]), weaving_count(low, (0, 0, 0), [[2, 1]])), (1, 0))

    def test_set_sluices(self):
        shut = Season(RING, sides=[(0, 1), (0,), (0, 1)])
        self.assertEqual(bad_weaving(shut, (0, 0, 0), [[0, 1], [2]]), (0, 0))
        self.assertIsNone(safe_weaving(shut, (0, 0, 0), [[0, 1], [2]]))

    def test_against_plain_search(self):
        rng = random.Random(1)
        bad, counts = set(), set()
        for season in random_seasons(2, 150) + dense_seasons(3, 150, mills=3, sluices=4):
            for setting in rng.sample(all_settings(season.valley), min(2, 2 ** len(season.valley))):
                rows = random_rows(rng, len(season.valley))
                every = weavings(rows)
                good = [weaving for weaving in every if walkable(season, setting, woven(rows, weaving))]
                whole = [weaving for weaving in good if is_whole(rows, weaving)]
                wrong = [weaving for weaving in every if weaving not in set(good)]
                same_as(self, always_safe(season, setting, rows), not wrong)
                first = min(wrong, key=lambda weaving: (len(weaving), weaving), default=None)
                self.assertEqual(bad_weaving(season, setting, rows), first)
                self.assertEqual(safe_weaving(season, setting, rows), min(whole, default=None))
                self.assertEqual(weaving_count(season, setting, rows), len(whole))
                bad.add(None if first is None else len(first))
                counts.add(min(len(whole), 3))
                position = [rng.randint(0, len(turns)) for turns in rows]
                made = [sluice for turns, many in zip(rows, position) for sluice in turns[:many]]
                self.assertEqual(setting_at(setting, rows, position), flips(setting, made))
        self.assertEqual(counts, {0, 1, 2, 3})
        self.assertTrue({None, 0, 1, 2, 3} <= bad)

    def test_large_seasons_and_four_hands_with_six_turns(self):
        many = math.factorial(24) // math.factorial(6) ** 4
        free = Season(large_season(1)[0].valley)
        rows = [list(range(hand, 48, 8)) for hand in range(4)]
        self.assertEqual(weaving_count(free, (0,) * 48, rows), many)
        self.assertIs(always_safe(free, (1,) * 48, rows), True)
        self.assertEqual(safe_weaving(free, (0,) * 48, rows), (0,) * 6 + (1,) * 6 + (2,) * 6 + (3,) * 6)
        found = set()
        for seed in range(6):
            season, setting = large_season(seed, slack=2)
            rng = random.Random(seed)
            rows = [[rng.randrange(48) for _ in range(3)] * 2 for _ in range(4)]
            weaving = bad_weaving(season, setting, rows)
            found.add(weaving is None)
            if weaving is not None:
                turns = woven(rows, weaving)
                self.assertFalse(walkable(season, setting, turns))
                self.assertTrue(walkable(season, setting, turns[:-1]))
            safe = safe_weaving(season, setting, rows)
            self.assertEqual(weaving_count(season, setting, rows) > 0, safe is not None)
            if safe is not None:
                self.assertTrue(is_whole(rows, safe) and walkable(season, setting, woven(rows, safe)))
        self.assertTrue(False in found)


if __name__ == "__main__":
    unittest.main()
