"""Points 12 and 13: what lots gain, load, want and bear; what is an obstacle."""

import unittest

from millsluices.lots import bear, gain, is_obstacle, load, want
from millsluices.seasons import Season
from millsluices.valleys import Valley
from plain import all_lots, all_running, random_seasons

RING = Valley.ring(3)


def plain_gain(season, lot):
    return sum(any(pair[side] in lot for side in let) for pair, let in zip(season.valley.sluices, season.sides))


def plain_load(season, lot):
    return sum(bool(let) and all(pair[side] in lot for side in let)
               for pair, let in zip(season.valley.sluices, season.sides))


class LotsTest(unittest.TestCase):
    season = Season(RING, needs=[1, 2, 3], limits=[4, None, 5], sides=[(0, 1), (0,), ()])

    def test_gain(self):
        self.assertEqual([gain(self.season, lot) for lot in ((), (0,), (1,), (2,), (0, 1), (0, 2))], [0, 1, 2, 0, 2, 1])

    def test_load(self):
        self.assertEqual([load(self.season, lot) for lot in ((), (0,), (1,), (2,), (0, 1), (0, 2))], [0, 0, 1, 0, 2, 0])

    def test_want(self):
        self.assertEqual([want(self.season, lot) for lot in ((), [2], [2, 0, 2], (1, 1))], [0, 3, 4, 2])

    def test_bear(self):
        self.assertEqual([bear(self.season, lot) for lot in ((), [2], [2, 0, 2], (1, 1), (0, 1, 2))],
                         [0, 5, 9, None, None])

    def test_very_large_numbers(self):
        season = Season(RING, needs=[10 ** 60, 1, 0], limits=[10 ** 60, 10 ** 60, None])
        self.assertEqual((want(season, [0, 1, 2]), bear(season, [1, 0, 1])), (10 ** 60 + 1, 2 * 10 ** 60))

    def test_any_order_and_repeated_mills(self):
        for lot in ([1, 0], (1, 0, 1), [0, 0, 1, 1]):
            self.assertEqual(gain(self.season, lot), 2)
            self.assertEqual(load(self.season, lot), 2)

    def test_against_plain_count(self):
        for season in random_seasons(21, 100):
            for lot in all_lots(season.valley.mills):
                self.assertEqual(gain(season, lot), plain_gain(season, lot))
                self.assertEqual(load(season, lot), plain_load(season, lot))


class ObstacleTest(unittest.TestCase):
    def test_sluice(self):
        season = Season(RING, sides=[(0, 1), (0,), ()])
        self.assertEqual([is_obstacle(season, ("sluice", sluice)) for sluice in range(3)], [False, False, True])

    def test_mill(self):
        season = Season(RING, needs=[1, 1, 9], limits=[0, 1, None])
        self.assertEqual([is_obstacle(season, ["mill", mill]) for mill in range(3)], [True, False, False])

    def test_wants(self):
        season = Season(RING, needs=[2, 2, 0])
        self.assertIs(is_obstacle(season, ("wants", (0, 1))), True)
        self.assertIs(is_obstacle(season, ["wants", [1, 0, 1]]), True)
        self.assertIs(is_obstacle(season, ("wants", (0, 1, 2))), True)
        self.assertIs(is_obstacle(season, ("wants", (0,))), False)
        self.assertIs(is_obstacle(season, ("wants", ())), False)

    def test_bears(self):
        season = Season(RING, limits=[0, 0, None])
        self.assertIs(is_obstacle(season, ("bears", (0, 1))), True)
        self.assertIs(is_obstacle(season, ("bears", [1, 1, 0])), True)
        self.assertIs(is_obstacle(season, ("bears", (0,))), False)
        self.assertIs(is_obstacle(season, ("bears", (0, 1, 2))), False)
        self.assertIs(is_obstacle(season, ("bears", ())), False)

    def test_obstacle_or_running_setting_but_not_both(self):
        for season in random_seasons(22, 250):
            mills = range(season.valley.mills)
            values = [("sluice", sluice) for sluice in range(len(season.valley))] + [("mill", mill) for mill in mills]
            for lot in all_lots(season.valley.mills):
                values += [("wants", lot), ("bears", lot)]
            found = [value for value in values if is_obstacle(season, value)]
            self.assertEqual(found == [], all_running(season) != [])


if __name__ == "__main__":
    unittest.main()
