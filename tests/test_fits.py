"""Point 32: whether a wish can be met."""

import random
import unittest

from millsluices.errors import NotRunning, SluiceError, ValleysDiffer
from millsluices.fits import Fit, fit, meeting_season
from millsluices.lots import is_obstacle
from millsluices.running import running
from millsluices.seasons import Season
from millsluices.settings import turned
from millsluices.valleys import Valley
from millsluices.walks import is_walk
from plain import (all_running, ball, dense_seasons, large_season, only_tuples, random_seasons, random_wishes, runs)

RING = Valley.ring(3)
WIDE = Season(RING.built([(0, 1)]), needs=[1, 1, 1])
WISH = Season(WIDE.valley, needs=[1, 2, 1])


class FitTest(unittest.TestCase):
    def check(self, season, wish, setting):
        """The fit proves itself; return whether the wish is met."""
        found = fit(season, wish, setting)
        self.assertIsInstance(found, Fit)
        self.assertIs(type(found.met), bool)
        self.assertTrue(only_tuples((found.reached, found.turns, found.obstacle)))
        if found.met:
            self.assertTrue(is_walk(season, setting, found.turns))
            self.assertEqual(turned(setting, found.turns), found.reached)
            self.assertTrue(found.reached in wish)
            self.assertIsNone(found.obstacle)
        else:
            self.assertEqual((found.reached, found.turns), (None, ()))
            self.assertTrue(is_obstacle(meeting_season(season, wish, setting), found.obstacle))
        return found.met

    def test_ordinary(self):
        self.assertTrue(self.check(WIDE, WISH, (0, 0, 0, 0)))
        self.assertEqual(fit(WIDE, WISH, [0, 0, 0, 0]).reached, (0, 0, 0, 1))
        self.assertFalse(self.check(WIDE, Season(WIDE.valley, needs=[2, 2, 1]), (0, 0, 0, 0)))

    def test_first_setting_is_reached_also_if_the_setting_itself_runs_in_the_wish(self):
        found = fit(Season(RING), Season(RING), (1, 1, 1))
        self.assertEqual((found.met, found.reached, found.obstacle), (True, (0, 0, 0), None))
        self.assertEqual(turned((1, 1, 1), found.turns), (0, 0, 0))

    def test_only_the_class_counts(self):
        season = Season(RING, needs=[1, 1, 1])
        self.assertFalse(self.check(season, Season.only(RING, (1, 1, 1)), (0, 0, 0)))
        self.assertTrue(self.check(season, Season.only(RING, (1, 1, 1)), (1, 1, 1)))
        self.assertEqual(fit(season, season, (1, 1, 1)).turns, ())

    def test_wishes_with_limits_and_set_sluices(self):
        self.assertTrue(self.check(Season(RING), Season(RING, limits=[0, None, None]), (0, 0, 0)))
        self.assertFalse(self.check(Season(RING), Season(RING, limits=[0, 0, None]), (0, 0, 0)))
        self.assertFalse(self.check(Season(RING), Season(RING, sides=[(), (0,), (0,)]), (0, 0, 0)))
        self.assertFalse(self.check(Season(RING), Season(RING, needs=[1, 0, 0], limits=[0, None, None]), (0, 0, 0)))

    def test_meeting_season(self):
        season = Season(RING, needs=[1, 0, 0], limits=[1, None, None])
        meeting = meeting_season(season, Season(RING, needs=[0, 2, 0]), (0, 0, 0))
        self.assertEqual(meeting, Season(RING, needs=[1, 2, 0], limits=[1, None, None], sides=[(0,), (0, 1), (0,)]))
        self.assertEqual(meeting_season(season=season, wish=Season(RING), setting=[0, 0, 0]).sides,
                         ((0,), (0, 1), (0,)))

    def test_without_sluices(self):
        bare = Season(Valley(2))
        found = fit(bare, bare, ())
        self.assertEqual((found.met, found.reached, found.turns, found.obstacle), (True, (), (), None))
        self.assertFalse(self.check(bare, Season(Valley(2), needs=[0, 1]), ()))

    def test_errors_and_their_order(self):
        other = Season(Valley.ring(4))
        for call in (fit, meeting_season):
            for setting in ((0, 0, 0, 0), (0, 1, 1, 0)):
                with self.assertRaises(ValleysDiffer) as caught:
                    call(season=WIDE, wish=other, setting=setting)
                self.assertIsInstance(caught.exception, SluiceError)
            with self.assertRaises(NotRunning) as caught:
                call(WIDE, WISH, [0, 1, 1, 0])
            self.assertEqual(caught.exception.setting, (0, 1, 1, 0))

    def test_against_plain_search(self):
        rng = random.Random(1)
        met = []
        for season in random_seasons(2, 120) + dense_seasons(3, 30):
            plain = all_running(season)
            for wish in random_wishes(rng, season, 3):
                for setting in rng.sample(plain, min(3, len(plain))):
                    good = sorted(after for after in ball(season, setting) if runs(wish, after))
                    met.append(self.check(season, wish, setting))
                    self.assertEqual(met[-1], len(good) > 0)
                    self.assertEqual(fit(season, wish, setting).reached, good[0] if good else None)
                    self.assertEqual(list(running(meeting_season(season, wish, setting))), good)
        self.assertEqual(set(met), {False, True})

    def test_large_seasons(self):
        met = []
        for seed in range(20):
            season, setting = large_season(seed, slack=1 + seed % 2)
            wish, other = large_season(seed, slack=0 if seed % 3 else 3)
            self.assertEqual((season.valley, setting), (wish.valley, other))
            wish = wish.loosened([], range(24)) if seed % 2 else wish
            self.assertTrue(self.check(season, wish, setting))
            for mill in range(0, 24, 5):
                needs = [count + (place == mill) for place, count in enumerate(season.needs)]
                met.append(self.check(season, Season(season.valley, needs=needs), setting))
        self.assertEqual(set(met), {False, True})

    def test_large_ring(self):
        valley = Valley.ring(24)
        season = Season(valley, needs=[1] * 23 + [0])
        self.assertTrue(self.check(season, Season(valley, needs=[0, 2] + [0] * 22), (0,) * 24))
        self.assertEqual(fit(season, Season.only(valley, (1,) * 24), (0,) * 24).reached, (1,) * 24)
        self.assertFalse(self.check(season, Season(valley, needs=[2, 2] + [0] * 22), (0,) * 24))


if __name__ == "__main__":
    unittest.main()
