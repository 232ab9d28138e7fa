"""Point 57: loosened bounds, so that every walk is possible."""

import itertools
import random
import unittest

from millsluices.errors import NothingRuns, SluiceError
from millsluices.loosening import loosening_count, loosenings
from millsluices.running import first_running
from millsluices.seasons import Season
from millsluices.stuckness import loose
from millsluices.valleys import Valley
from plain import (all_loose, all_running, counts, dense_seasons, large_season, only_tuples, random_seasons,
                   random_valley, unset_sluices)

RING = Valley.ring(3)
FULL = Season(RING, needs=[1, 1, 1])


def plain_number(season, setting):
    """The number as the document counts it in a running setting."""
    links = [(pair[1 - setting[sluice]], pair[setting[sluice]]) for sluice, pair in enumerate(season.valley.sluices)
             if sluice in unset_sluices(season)]
    fed = counts(season.valley, setting)

    def from_mill(mill):
        found = {mill}
        while any(one in found and two not in found for one, two in links):
            found |= {two for one, two in links if one in found}
        return found

    ways = {mill: from_mill(mill) for mill in range(season.valley.mills)}
    touched = {mill for link in links for mill in link}
    knots = {tuple(two for two in ways if two in ways[one] and one in ways[two]) for one in touched}
    total = 0
    for knot in knots:
        leaving = any(one in knot and two not in knot for one, two in links)
        entering = any(two in knot and one not in knot for one, two in links)
        below = not leaving and all(fed[mill] <= season.needs[mill] for mill in knot)
        above = not entering and all(fed[mill] == season.limits[mill] for mill in knot)
        rigid = [mill for mill in knot if mill in touched and season.needs[mill] == season.limits[mill]]
        total += max(len(rigid), 1 if below or above else 0)
    return total


def rigid_season(rng):
    """A season in which many mills are rigid, and something runs."""
    valley = random_valley(rng, most_mills=5)
    fed = counts(valley, [rng.randint(0, 1) for _ in valley.sluices])
    slack = [rng.choice((0, 0, 1)) for _ in fed]
    return Season(valley, needs=[max(0, count - more) for count, more in zip(fed, slack)],
                  limits=[count + rng.choice((0, more)) for count, more in zip(fed, slack)])


def ways_to_loosen(season, number):
    mills = range(season.valley.mills)
    for many in range(number + 1):
        for lowered in itertools.combinations_with_replacement(mills, many):
            for raised in itertools.combinations_with_replacement(mills, number - many):
                yield season.loosened(lowered, raised)


class LooseningTest(unittest.TestCase):
    def check(self, season, number):
        lowered, raised = loosenings(season)
        self.assertEqual(len(lowered) + len(raised), number)
        self.assertEqual(loosening_count(season), number)
        self.assertTrue(only_tuples(loosenings(season)))
        loosened = season.loosened(lowered, raised)
        self.assertEqual(loose(loosened, first_running(loosened)), season.unset)
        return lowered, raised

    def test_ordinary(self):
        self.assertEqual(len(self.check(FULL, 1)[0]), 1)
        self.check(FULL & Season(RING, limits=[1, 1, 1]), 3)
        self.assertEqual(loosening_count(season=FULL), 1)
        self.assertEqual(loosenings(season=Season(RING)), ((), ()))

    def test_needy_from_above_from_both_sides_and_not_at_all(self):
        lowered, raised = self.check(Season(RING, limits=[1, 1, 1]), 1)
        self.assertEqual((lowered, len(raised)), ((), 1))
        lowered, raised = self.check(Season(RING, needs=[1, 1, 1], limits=[1, 1, 1]), 3)
        self.assertTrue(len(lowered) >= 1 and len(raised) >= 1)
        self.check(Season(RING, needs=[1, 1, 0]), 0)
        self.check(Season(RING, needs=[1, 1, 0], limits=[2, 1, 1]), 1)

    def test_rigid_mills(self):
        self.check(Season(RING, needs=[1, 0, 0], limits=[1, None, None]), 1)
        self.check(Season(RING, needs=[0, 1, 1], limits=[None, 1, 1]), 2)
        # A mill that must be fed by none has no need to be lowered.
        self.assertEqual(self.check(Season(Valley.row(2), limits=[0, None]), 1), ((), (0,)))
        self.assertEqual(self.check(Season(Valley.row(2), needs=[0, 1], limits=[0, None]), 2), ((1,), (0,)))
        self.assertEqual(self.check(Season(Valley.row(2), needs=[0, 1], limits=[None, 1]), 1), ((1,), ()))

    def test_rigid_mills_that_no_unset_sluice_touches(self):
        valley = RING + Valley.row(2)
        season = Season(valley, needs=[1, 1, 0, 1, 0], limits=[None, None, None, 1, 0], sides=[(0, 1)] * 3 + [(0,)])
        self.check(season, 0)
        self.check(Season(valley, needs=[1, 1, 1, 1, 0], limits=[None, None, None, 1, 0],
                          sides=[(0, 1)] * 3 + [(0,)]), 1)

    def test_without_unset_sluices(self):
        self.check(Season.only(RING, (0, 1, 0)), 0)
        self.check(Season(Valley(1), limits=[0]), 0)

    def test_several_parts(self):
        valley = RING + RING
        self.check(Season(valley, needs=[1] * 6), 2)
        self.check(Season(valley, needs=[1, 1, 1, 0, 0, 0], limits=[None, None, None, 1, 1, 1]), 2)

    def test_nothing_runs(self):
        for season in (Season(RING, needs=[3, 1, 0]), Season(RING, needs=[1, 0, 0], limits=[0, None, None]),
                       Season(RING, sides=[(), (0, 1), (0, 1)])):
            for call in (loosenings, loosening_count):
                with self.assertRaises(NothingRuns) as caught:
                    call(season)
                self.assertIsInstance(caught.exception, SluiceError)

    def test_against_plain_search(self):
        rng = random.Random(1)
        numbers = set()
        seasons = random_seasons(2, 200, tight=0.7) + dense_seasons(3, 40, mills=3, sluices=4)
        seasons += [rigid_season(rng) for _ in range(80)]
        for season in seasons:
            plain = all_running(season)
            if not plain:
                with self.assertRaises(NothingRuns):
                    loosening_count(season)
                continue
            number = plain_number(season, rng.choice(plain))
            numbers.add(number)
            lowered, raised = self.check(season, number)
            self.assertTrue(all_loose(season.loosened(lowered, raised)))
            for fewer in range(min(number, 3)):
                self.assertFalse(any(all_loose(other) for other in ways_to_loosen(season, fewer)))
        self.assertTrue({0, 1, 2, 3, 4} <= numbers, numbers)

    def test_large_seasons(self):
        numbers = set()
        for seed in range(12):
            season, setting = large_season(seed, mills=(24, 24, 12)[seed % 3], sluices=48, slack=(0, 1, 1)[seed % 3])
            number = plain_number(season, setting)
            numbers.add(number)
            self.check(season, number)
        self.assertTrue(len(numbers) > 2)


if __name__ == "__main__":
    unittest.main()
