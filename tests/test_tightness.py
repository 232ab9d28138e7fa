"""Point 15: tight lots."""

import unittest

from millsluices.errors import NothingRuns
from millsluices.lots import bear, gain, load, want
from millsluices.seasons import Season
from millsluices.tightness import (greatest_tight_above, greatest_tight_below, least_tight_above,
                                   least_tight_below)
from millsluices.valleys import Valley
from plain import all_lots, all_running, dense_seasons, large_season, random_seasons

RING = Valley.ring(3)


class TightnessTest(unittest.TestCase):
    def test_below(self):
        season = Season(Valley.row(3), needs=[1, 0, 0])
        self.assertEqual(greatest_tight_below(season), (0,))
        self.assertEqual([least_tight_below(season, mill) for mill in range(3)], [(0,), None, None])

    def test_above(self):
        season = Season(Valley.row(3), limits=[0, 1, None])
        self.assertEqual(greatest_tight_above(season), (0, 1))
        self.assertEqual([least_tight_above(season, mill) for mill in range(3)], [(0,), (0, 1), None])

    def test_lots_that_hang_together(self):
        season = Season(RING, needs=[1, 1, 1])
        self.assertEqual(least_tight_below(season, 1), (0, 1, 2))
        self.assertEqual(greatest_tight_above(season), ())
        self.assertEqual(greatest_tight_below(Season(RING)), ())

    def test_no_sluices(self):
        season = Season(Valley(2), limits=[0, None])
        self.assertEqual(greatest_tight_below(season), (0, 1))
        self.assertEqual(greatest_tight_above(season), (0,))
        self.assertEqual(least_tight_below(season=season, mill=1), (1,))
        self.assertIsNone(least_tight_above(season=season, mill=1))

    def test_set_sluices(self):
        season = Season(Valley.row(2), needs=[0, 1], sides=[(1,)])
        self.assertEqual(greatest_tight_below(season), (0, 1))
        self.assertEqual(least_tight_below(season, 1), (1,))

    def test_nothing_runs(self):
        season = Season(RING, needs=[2, 2, 0])
        for call in (lambda: greatest_tight_below(season), lambda: greatest_tight_above(season),
                     lambda: least_tight_below(season, 0), lambda: least_tight_above(season, 2)):
            with self.assertRaises(NothingRuns):
                call()

    def test_against_plain_count(self):
        for season in random_seasons(41, 300) + dense_seasons(42, 40):
            if all_running(season):
                lots = all_lots(season.valley.mills)
                below = [lot for lot in lots if want(season, lot) == gain(season, lot)]
                above = [lot for lot in lots if bear(season, lot) == load(season, lot)]
                self.assertEqual(greatest_tight_below(season), max(below, key=len))
                self.assertEqual(greatest_tight_above(season), max(above, key=len))
                for mill in range(season.valley.mills):
                    self.assertEqual(least_tight_below(season, mill),
                                     min([lot for lot in below if mill in lot], key=len, default=None))
                    self.assertEqual(least_tight_above(season, mill),
                                     min([lot for lot in above if mill in lot], key=len, default=None))

    def test_large_seasons(self):
        for seed in range(6):
            season, _ = large_season(seed)
            below, above = greatest_tight_below(season), greatest_tight_above(season)
            self.assertEqual(want(season, below), gain(season, below))
            self.assertEqual(bear(season, above), load(season, above))
            for mill in range(24):
                lot = least_tight_below(season, mill)
                self.assertEqual(lot is None, mill not in below)
                if lot is not None:
                    self.assertEqual(want(season, lot), gain(season, lot))
                    self.assertTrue(mill in lot and set(lot) <= set(below))


if __name__ == "__main__":
    unittest.main()
