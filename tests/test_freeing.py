"""Point 56: new sluices, so that every walk is possible."""

import itertools
import random
import unittest

from millsluices.errors import HasLimits, NoSide, NothingRuns, SluiceError
from millsluices.freeing import freeing, least_tight_lots
from millsluices.lots import gain, want
from millsluices.running import first_running
from millsluices.seasons import Season
from millsluices.stuckness import loose
from millsluices.unity import unity
from millsluices.valleys import Valley
from plain import all_loose, all_lots, all_pairs, all_running, only_tuples, random_open_season, unset_sluices

RING = Valley.ring(3)
CALLS = (least_tight_lots, freeing)


def plain_lots(season):
    tight = [lot for lot in all_lots(season.valley.mills) if lot and want(season, lot) == gain(season, lot)]
    least = [lot for lot in tight if not any(set(other) < set(lot) for other in tight)]
    touched = {mill for sluice in unset_sluices(season) for mill in season.valley.sluices[sluice]}
    return tuple(sorted(lot for lot in least if touched & set(lot)))


class FreeingTest(unittest.TestCase):
    def test_ordinary(self):
        season = Season(RING, needs=[1, 1, 1])
        self.assertEqual(least_tight_lots(season), ((0, 1, 2),))
        pairs = freeing(season)
        self.assertEqual(len(pairs), 1)
        self.assertTrue(all_loose(season.built(pairs)))
        self.assertTrue(only_tuples(pairs) and only_tuples(least_tight_lots(season)))
        self.assertEqual((least_tight_lots(season=season), freeing(season=season)), (((0, 1, 2),), pairs))

    def test_no_lots(self):
        for season in (Season(RING), Season(RING, needs=[1, 1, 0]), Season(Valley(2))):
            self.assertEqual((least_tight_lots(season), freeing(season)), ((), ()))

    def test_tight_lots_that_no_unset_sluice_touches(self):
        # Mill 3 is alone and needs nothing; mills 4 and 5 share a set sluice.
        valley = RING + Valley(1) + Valley.row(2)
        season = Season(valley, needs=[1, 1, 1, 0, 1, 0], sides=[(0, 1)] * 3 + [(0,)])
        self.assertEqual(least_tight_lots(season), ((0, 1, 2),))
        self.assertTrue(all_loose(season.built(freeing(season))))
        lone = Season(valley, needs=[1, 1, 0, 0, 1, 0], sides=[(0, 1)] * 3 + [(0,)])
        self.assertEqual((least_tight_lots(lone), freeing(lone)), ((), ()))

    def test_an_odd_and_an_even_number_of_lots(self):
        for many in (1, 2, 3, 4):
            valley = RING
            for _ in range(many - 1):
                valley = valley + RING
            season = Season(valley, needs=[1] * valley.mills)
            self.assertEqual(least_tight_lots(season), tuple((at, at + 1, at + 2) for at in range(0, 3 * many, 3)))
            pairs = freeing(season)
            self.assertEqual(len(pairs), (many + 1) // 2)
            self.check_loose(season.built(pairs))

    def test_lots_of_a_single_mill(self):
        season = Season(Valley.row(2), needs=[1, 0])
        self.assertEqual(least_tight_lots(season), ((0,),))
        self.assertEqual(len(freeing(season)), 1)
        self.assertTrue(all_loose(season.built(freeing(season))))
        last = Season(Valley.row(2), needs=[0, 1])
        self.assertEqual(least_tight_lots(last), ((1,),))
        self.assertTrue(all_loose(last.built(freeing(last))))
        both = Season(Valley(3, [(0, 1), (1, 2), (0, 1), (1, 2)]), needs=[2, 0, 2])
        self.assertEqual(least_tight_lots(both), ((0,), (2,)))
        self.assertEqual(len(freeing(both)), 1)

    def test_greater_lots_that_contain_least_ones(self):
        season = Season(Valley.row(4), needs=[1, 1, 1, 0])
        self.assertEqual(least_tight_lots(season), ((0,),))
        self.assertTrue(all_loose(season.built(freeing(season))))

    def test_errors_and_their_order(self):
        for call in CALLS:
            with self.assertRaises(HasLimits) as caught:
                call(Season(RING, needs=[9, 0, 0], limits=[None, None, 7], sides=[(), (0, 1), ()]))
            self.assertEqual(caught.exception.mill, 2)
            with self.assertRaises(NoSide) as caught:
                call(Season(RING, needs=[9, 0, 0], sides=[(0, 1), (0,), ()]))
            self.assertEqual(caught.exception.sluice, 2)
            with self.assertRaises(NothingRuns) as caught:
                call(Season(RING, needs=[3, 0, 0]))
            self.assertIsInstance(caught.exception, SluiceError)

    def check_loose(self, season):
        setting = first_running(season)
        self.assertEqual(loose(season, setting), season.unset)
        self.assertIs(unity(season).single, True)

    def test_against_plain_search(self):
        rng = random.Random(1)
        numbers = set()
        for _ in range(200):
            season = random_open_season(rng, most_sluices=5)
            lots = plain_lots(season)
            self.assertEqual(least_tight_lots(season), lots)
            pairs = freeing(season)
            self.assertEqual(len(pairs), (len(lots) + 1) // 2)
            self.assertTrue(all_loose(season.built(pairs)))
            numbers.add(len(lots))
            possible = all_pairs(season.valley.mills)
            for fewer in range(len(pairs)):
                self.assertFalse(any(all_loose(season.built(some))
                                     for some in itertools.combinations_with_replacement(possible, fewer)))
        self.assertTrue({0, 1, 2} <= numbers)

    def test_more_mills_against_plain_search(self):
        rng = random.Random(2)
        numbers = set()
        for _ in range(120):
            season = random_open_season(rng, most_mills=8, most_sluices=7)
            self.assertEqual(least_tight_lots(season), plain_lots(season))
            self.assertTrue(all_loose(season.built(freeing(season))))
            numbers.add(len(freeing(season)))
        self.assertTrue({0, 1, 2} <= numbers)

    def test_bounds(self):
        rng = random.Random(3)
        found = set()
        for mills in (2, 6, 12, 24):
            for _ in range(4):
                season = random_open_season(rng, most_mills=mills, most_sluices=20)
                lots = least_tight_lots(season)
                self.assertEqual(len({mill for lot in lots for mill in lot}), sum(len(lot) for lot in lots))
                self.assertTrue(all(want(season, lot) == gain(season, lot) for lot in lots))
                pairs = freeing(season)
                found.add(len(pairs))
                self.assertEqual(len(pairs), (len(lots) + 1) // 2)
                self.check_loose(season.built(pairs))
        self.assertTrue(len(found) > 1)

    def test_nothing_runs_against_plain_search(self):
        rng = random.Random(4)
        for _ in range(60):
            season = random_open_season(rng, lack=2)
            if not all_running(season):
                with self.assertRaises(NothingRuns):
                    freeing(season)


if __name__ == "__main__":
    unittest.main()
