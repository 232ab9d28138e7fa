"""Crowds of settings, which the points about small seasons are answered with."""

import random
import unittest

from millsluices.fields import Field, running_settings
from millsluices.seasons import Season
from millsluices.valleys import Valley
from plain import all_running, all_settings, ball, dense_seasons, flip, random_seasons, random_valley


class FieldTest(unittest.TestCase):
    def test_settings_stand_in_their_order(self):
        for size in (1, 2, 3, 10):
            valley = Valley(2, [(0, 1)] * size)
            field = Field(valley)
            self.assertEqual(list(field.listed(field.whole)), all_settings(valley))
            self.assertEqual([field.number(setting) for setting in all_settings(valley)], list(range(1 << size)))
        bare = Field(Valley(1))
        self.assertEqual((bare.listed(bare.whole), bare.first(0), bare.first(1)), (((),), None, ()))

    def test_crowds(self):
        rng = random.Random(1)
        for _ in range(50):
            valley = random_valley(rng)
            field = Field(valley)
            plain = all_settings(valley)
            some = sorted(rng.sample(plain, rng.randint(0, len(plain))))
            crowd = field.crowd(some)
            self.assertEqual(field.listed(crowd), tuple(some))
            self.assertEqual(field.first(crowd), some[0] if some else None)
            self.assertEqual([setting for setting in plain if field.has(crowd, setting)], some)
            for sluice in range(len(valley)):
                self.assertEqual(field.listed(field.swapped(crowd, sluice)),
                                 tuple(sorted(flip(setting, sluice) for setting in some)))

    def test_running(self):
        for season in random_seasons(2, 200) + dense_seasons(3, 30):
            self.assertEqual(list(running_settings(season)), all_running(season))
        self.assertEqual(running_settings(Season(Valley(1), needs=[1])), {})
        self.assertEqual(running_settings(Season(Valley(2, [(0, 1)]), sides=[()])), {})
        self.assertEqual(running_settings(Season(Valley(2, [(0, 1)]), needs=[10 ** 30, 0])), {})

    def test_balls(self):
        rng = random.Random(4)
        for season in random_seasons(5, 60) + dense_seasons(6, 20):
            field = Field(season.valley)
            ground = field.runners(season)
            plain = all_running(season)
            for start in rng.sample(plain, min(4, len(plain))):
                for turns in (None, 0, 1, 2, 10 ** 30):
                    sluices = [sluice for sluice in season.unset if rng.random() < 0.8]
                    crowd = field.ball(field.alone(start), ground, sluices, turns)
                    self.assertEqual(set(field.listed(crowd)), ball(season, start, turns, sluices))


if __name__ == "__main__":
    unittest.main()
