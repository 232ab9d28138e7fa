"""Point 58: sluices that can be spared."""

import random
import unittest

from millsluices.errors import NotRunning, SluiceError
from millsluices.seasons import Season
from millsluices.sparing import cleanable, closable
from millsluices.valleys import Valley
from plain import (all_running, dense_seasons, large_season, only_tuples, random_season, random_seasons, reach, runs)

RING = Valley.ring(3)
LOW = Season(RING, needs=[1, 1, 0])
ZERO = (0, 0, 0)


def less(setting, sluice):
    return setting[:sluice] + setting[sluice + 1:]


def plain_closable(season):
    return tuple(sluice for sluice in range(len(season.valley)) if all_running(season.without((sluice,))))


def plain_cleanable(season, setting):
    members = reach(season, setting)
    return tuple(sluice for sluice in range(len(season.valley))
                 if any(runs(season.without((sluice,)), less(after, sluice)) for after in members))


class SparingTest(unittest.TestCase):
    def test_ordinary(self):
        self.assertEqual(closable(LOW), (0, 1, 2))
        self.assertEqual(cleanable(LOW, [0, 0, 0]), (0, 1, 2))
        self.assertEqual((closable(season=LOW), cleanable(season=LOW, setting=ZERO)), ((0, 1, 2), (0, 1, 2)))
        full = Season(RING, needs=[1, 1, 1])
        self.assertEqual((closable(full), cleanable(full, ZERO)), ((), ()))
        self.assertTrue(only_tuples(closable(LOW)) and only_tuples(cleanable(LOW, [0, 0, 0])))

    def test_nothing_runs(self):
        many = Season(Valley(2, [(0, 1), (0, 1)]), limits=[0, 1])
        self.assertEqual(all_running(many), [])
        self.assertEqual(closable(many), (0, 1))
        shut = Season(Valley(2, [(0, 1), (0, 1), (0, 1)]), sides=[(0,), (), (0, 1)])
        self.assertEqual(closable(shut), (1,))
        self.assertEqual(closable(Season(RING, needs=[4, 0, 0])), ())

    def test_set_sluices(self):
        season = Season(Valley(2, [(0, 1), (0, 1), (0, 1)]), needs=[1, 0], sides=[(0,), (0, 1), (1,)])
        self.assertEqual(closable(season), (0, 1, 2))
        self.assertEqual(cleanable(season, (0, 1, 1)), (0, 1, 2))
        tight = Season(season.valley, needs=[1, 1], sides=[(0,), (0, 1), (1,)])
        self.assertEqual(closable(tight), (0, 1, 2))
        stuck = Season(season.valley, needs=[1, 2], sides=[(0,), (0, 1), (1,)])
        self.assertEqual((closable(stuck), cleanable(stuck, (0, 1, 1))), ((), ()))

    def test_a_sluice_that_no_walk_frees(self):
        # Without sluice 0 something runs, but no walk leads there.
        season = Season(RING.built([(0, 1)]), needs=[1, 1, 1], limits=[2, 2, 1])
        for setting in all_running(season):
            self.assertEqual(cleanable(season, setting), plain_cleanable(season, setting))
        classes = Season(RING, needs=[1, 1, 1]).built([(0, 1)])
        self.assertEqual(closable(classes), plain_closable(classes))

    def test_without_sluices(self):
        bare = Season(Valley(2))
        self.assertEqual((closable(bare), cleanable(bare, ())), ((), ()))

    def test_errors(self):
        for season in (LOW, Season(RING, needs=[4, 0, 0])):
            with self.assertRaises(NotRunning) as caught:
                cleanable(season, [0, 1, 1])
            self.assertEqual(caught.exception.setting, (0, 1, 1))
            self.assertIsInstance(caught.exception, SluiceError)

    def test_against_plain_search(self):
        rng = random.Random(1)
        found = set()
        for season in random_seasons(2, 250) + dense_seasons(3, 40, mills=3, sluices=5):
            self.assertEqual(closable(season), plain_closable(season))
            plain = all_running(season)
            for setting in rng.sample(plain, min(3, len(plain))):
                self.assertEqual(cleanable(season, setting), plain_cleanable(season, setting))
                found.add((len(closable(season)) > 0, cleanable(season, setting) == closable(season)))
        self.assertTrue({(True, True), (False, True), (True, False)} <= found)

    def test_large_seasons(self):
        # Parts of a valley do not concern each other.
        rng = random.Random(4)
        found = set()
        for _ in range(5):
            small = []
            while sum(len(season.valley) for season in small) < 30:
                season = random_season(rng, tight=0.3)
                if all_running(season):
                    small.append(season)
            setting, expected, valley, start = (), [], None, 0
            for season in small:
                first = rng.choice(all_running(season))
                expected += [start + sluice for sluice in plain_cleanable(season, first)]
                setting += first
                start += len(first)
                valley = season.valley if valley is None else valley + season.valley
            found.add(len(expected))
            whole = Season(valley, needs=[need for season in small for need in season.needs],
                           limits=[limit for season in small for limit in season.limits],
                           sides=[let for season in small for let in season.sides])
            self.assertEqual(cleanable(whole, setting), tuple(expected))
        self.assertTrue(len(found) > 1)
        for seed in range(4):
            season, setting = large_season(seed)
            self.assertTrue(set(cleanable(season, setting)) <= set(closable(season)))
            now = [sluice for sluice in range(48) if runs(season.without((sluice,)), less(setting, sluice))]
            self.assertTrue(set(now) <= set(cleanable(season, setting)))


if __name__ == "__main__":
    unittest.main()
