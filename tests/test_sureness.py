"""Point 16: what all running settings share."""

import random
import unittest

from millsluices.errors import NothingRuns, ValleysDiffer
from millsluices.running import first_running
from millsluices.seasons import Season
from millsluices.sureness import fed_range, parting, same_running, sure_sides, tightened
from millsluices.valleys import Valley
from plain import all_running, counts, dense_seasons, large_season, random_season, random_seasons

RING = Valley.ring(3)


class SurenessTest(unittest.TestCase):
    def test_sure_sides(self):
        self.assertEqual(sure_sides(Season(RING, needs=[1, 1, 1])), (None, None, None))
        self.assertEqual(sure_sides(Season(RING, sides=[(1,), (0, 1), (0,)])), (1, None, 0))
        self.assertEqual(sure_sides(Season(Valley(1))), ())

    def test_fed_range(self):
        season = Season(RING, needs=[1, 1, 0])
        self.assertEqual([fed_range(season, mill) for mill in range(3)], [(1, 2), (1, 2), (0, 1)])
        self.assertEqual(fed_range(season=Season(Valley(2)), mill=1), (0, 0))
        self.assertEqual(fed_range(Season(RING, limits=[10 ** 30, None, 0]), 2), (0, 0))

    def test_tightened(self):
        season = Season(RING, needs=[2, 0, 0])
        self.assertEqual(tightened(season), Season(RING, needs=[2, 0, 0], limits=[2, 1, 1],
                                                   sides=[(0,), (0, 1), (1,)]))

    def test_nothing_runs(self):
        season = Season(RING, needs=[2, 2, 0])
        for call in (lambda: sure_sides(season), lambda: fed_range(season, 0), lambda: tightened(season)):
            with self.assertRaises(NothingRuns):
                call()

    def test_against_plain_count(self):
        for season in random_seasons(51, 250) + dense_seasons(52, 40):
            plain = all_running(season)
            if plain:
                numbers = [counts(season.valley, setting) for setting in plain]
                sides = [sorted({setting[sluice] for setting in plain}) for sluice in range(len(season.valley))]
                self.assertEqual(sure_sides(season), tuple(None if len(let) == 2 else let[0] for let in sides))
                for mill in range(season.valley.mills):
                    fed = [number[mill] for number in numbers]
                    self.assertEqual(fed_range(season, mill), (min(fed), max(fed)))
                narrow = tightened(season)
                self.assertEqual(narrow, Season(season.valley, needs=[min(fed) for fed in zip(*numbers)],
                                                limits=[max(fed) for fed in zip(*numbers)], sides=sides))
                self.assertEqual(all_running(narrow), plain)

    def test_large_seasons(self):
        for seed in range(4):
            season, setting = large_season(seed)
            narrow = tightened(season)
            self.assertTrue(setting in narrow)
            self.assertEqual(tightened(narrow), narrow)
            self.assertTrue(same_running(season, narrow))
            self.assertEqual(parting(Season(season.valley), season), first_running(Season(season.valley)))
            self.assertIsNone(parting(season, Season(season.valley)))


class PartingTest(unittest.TestCase):
    def test_ordinary(self):
        self.assertEqual(parting(Season(RING), Season(RING, needs=[1, 1, 0])), (0, 1, 0))
        self.assertEqual(parting(one=Season(RING), two=Season(RING, sides=[(0,), (0, 1), (0, 1)])), (1, 0, 0))
        self.assertEqual(parting(Season(RING), Season(RING, limits=[None, None, 1])), (0, 1, 0))
        self.assertIsNone(parting(Season(RING, needs=[1, 1, 1]), Season(RING)))

    def test_nothing_runs(self):
        none = Season(RING, needs=[2, 2, 0])
        self.assertIsNone(parting(none, Season(RING)))
        self.assertEqual(parting(Season(RING), none), (0, 0, 0))
        self.assertIs(same_running(none, Season(RING, sides=[(), (0, 1), (0, 1)])), True)
        self.assertIs(same_running(none, Season(RING)), False)

    def test_same_running(self):
        one = Season(RING, needs=[2, 0, 0])
        self.assertIs(same_running(one, Season(RING, sides=[(0,), (0, 1), (1,)])), True)
        self.assertIs(same_running(one=one, two=Season(RING, sides=[(0,), (0, 1), (0, 1)])), False)
        self.assertIs(same_running(Season(RING, sides=[(0,), (0, 1), (0, 1)]), one), False)

    def test_valleys_differ(self):
        for two in (Season(Valley.ring(2)), Season(Valley(3)), Season(Valley(3), needs=[1, 0, 0])):
            with self.assertRaises(ValleysDiffer):
                parting(Season(RING), two)
            with self.assertRaises(ValleysDiffer):
                same_running(Season(RING), two)

    def test_against_plain_count(self):
        rng = random.Random(53)
        for one in random_seasons(54, 200) + dense_seasons(55, 30):
            plain = all_running(one)
            for two in (random_season(rng, one.valley), random_season(rng, one.valley, tight=1)):
                others = all_running(two)
                apart = [setting for setting in plain if setting not in others]
                self.assertEqual(parting(one, two), apart[0] if apart else None)
                self.assertEqual(same_running(one, two), plain == others)
                if plain and others:
                    self.assertEqual(tightened(one) == tightened(two), plain == others)

    def test_large_parting_is_first(self):
        for seed in range(3):
            season, _ = large_season(seed)
            narrow = tightened(season)
            first = first_running(season)
            other = narrow & Season(season.valley, needs=[max(0, need) for need in narrow.needs],
                                    limits=[limit - (at == 3 and limit > need) for at, (limit, need) in
                                            enumerate(zip(narrow.limits, narrow.needs))])
            found = parting(season, other)
            if found is not None:
                self.assertTrue(found in season and found not in other and first <= found)


if __name__ == "__main__":
    unittest.main()
