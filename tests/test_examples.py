"""The examples of the document's interface."""

import unittest

from millsluices.errors import BadWalk
from millsluices.lots import gain, load
from millsluices.running import obstacle, running
from millsluices.seasons import Season
from millsluices.settings import fed, turned
from millsluices.sureness import sure_sides, tightened
from millsluices.tightness import greatest_tight_below
from millsluices.valleys import Valley
from millsluices.walks import follow, turnable


class ExamplesTest(unittest.TestCase):
    ring = Valley.ring(3)
    season = Season(ring, needs=[1, 1, 1])
    low = Season(ring, needs=[1, 1, 0])

    def test_valleys(self):
        self.assertEqual(self.ring.sluices, ((0, 1), (1, 2), (2, 0)))
        self.assertEqual((self.ring + Valley.row(2)).sluices, ((0, 1), (1, 2), (2, 0), (3, 4)))
        self.assertEqual((self.ring + Valley.row(2)).parts, ((0, 1, 2), (3, 4)))

    def test_settings(self):
        self.assertEqual(fed(self.ring, (0, 1, 1)), (2, 0, 1))
        self.assertEqual(turned((0, 1, 1), [2, 0, 2]), (1, 1, 1))

    def test_seasons(self):
        self.assertTrue((0, 0, 0) in self.season)
        self.assertEqual(self.season.out((0, 1, 1)), (1,))
        self.assertEqual(self.season.pinned((0, 0, 1), [2, 0]).sides, ((0,), (0, 1), (1,)))
        self.assertEqual((self.season & Season(self.ring, limits=[1, None, 2])).rigid, (0,))

    def test_lots(self):
        self.assertEqual((gain(self.season, [0, 1]), load(self.season, [0, 1])), (3, 1))

    def test_running(self):
        self.assertEqual(list(running(self.season)), [(0, 0, 0), (1, 1, 1)])
        self.assertEqual(obstacle(Season(self.ring, needs=[2, 1, 1])), ("wants", (0, 1, 2)))

    def test_tightness(self):
        self.assertEqual(greatest_tight_below(self.season), (0, 1, 2))

    def test_sureness(self):
        self.assertEqual(sure_sides(Season(self.ring, needs=[2, 0, 0])), (0, None, 1))
        self.assertEqual(tightened(Season(self.ring, needs=[2, 0, 0])).limits, (2, 1, 1))

    def test_walks(self):
        self.assertEqual(follow(self.low, (0, 0, 0), [2, 0]), ((0, 0, 0), (0, 0, 1), (1, 0, 1)))
        self.assertEqual(turnable(self.low, (0, 0, 1)), (0, 2))
        with self.assertRaises(BadWalk) as caught:
            follow(self.low, (0, 0, 0), [2, 1])
        self.assertEqual(caught.exception.index, 1)


if __name__ == "__main__":
    unittest.main()
