"""Point 21: blockades."""

import unittest

from millsluices.blockades import blocked_by, is_blockade
from millsluices.seasons import Season
from millsluices.stuckness import saturated, starved, stuck
from millsluices.valleys import Valley
from plain import all_lots, all_running, all_settings, counts, only_tuples, random_seasons, runs
from test_stuckness import plain_links

RING = Valley.ring(3)


def plain_blockade(season, setting, low, high):
    if not runs(season, setting):
        return False
    numbers = counts(season.valley, setting)
    links = plain_links(season, setting)
    rigid = [mill for mill in range(season.valley.mills) if season.needs[mill] == season.limits[mill]]
    return (all(mill not in rigid and numbers[mill] <= season.needs[mill] for mill in low)
            and all(head in low for tail, head in links if tail in low)
            and all(mill not in rigid and season.limits[mill] is not None and numbers[mill] >= season.limits[mill]
                    for mill in high)
            and all(tail in high for tail, head in links if head in high))


class BlockadeTest(unittest.TestCase):
    def test_ordinary(self):
        season = Season(RING, needs=[1, 1, 1])
        self.assertIs(is_blockade(season, (0, 0, 0), (0, 1, 2), ()), True)
        self.assertIs(is_blockade(season, [0, 0, 0], [2, 1, 0, 1], []), True)
        self.assertIs(is_blockade(season, (0, 0, 0), (0, 1), ()), False)
        self.assertIs(is_blockade(season, (0, 0, 0), (), (0, 1, 2)), False)
        self.assertIs(is_blockade(Season(RING, limits=[1, 1, 1]), (0, 0, 0), (), (0, 1, 2)), True)

    def test_empty_lots(self):
        self.assertIs(is_blockade(Season(RING), (0, 0, 0), (), ()), True)
        self.assertIs(is_blockade(season=Season(Valley(1)), setting=(), low=(), high=()), True)

    def test_settings_that_do_not_run(self):
        self.assertIs(is_blockade(Season(RING, needs=[1, 1, 1]), (0, 1, 1), (), ()), False)
        self.assertIs(is_blockade(Season(RING, needs=[2, 2, 0]), (0, 0, 0), (0, 1, 2), ()), False)

    def test_rigid_mills_are_in_no_blockade(self):
        season = Season(RING, needs=[1, 0, 0], limits=[1, None, None])
        self.assertIs(is_blockade(season, (0, 0, 0), (0,), ()), False)
        self.assertIs(is_blockade(season, (0, 0, 0), (), (0,)), False)

    def test_blocked_by(self):
        season = Season(Valley.row(5), needs=[1, 0, 0, 0, 0], limits=[1] + [None] * 4,
                        sides=[(0, 1), (0, 1), (0, 1), (0,)])
        self.assertEqual(blocked_by(season, (), ()), (0, 3))
        self.assertEqual(blocked_by(season, [2, 2], ()), (0, 1, 2, 3))
        self.assertEqual(blocked_by(season, (), [1]), (0, 1, 3))
        self.assertEqual(blocked_by(season=season, low=(4,), high=(1, 0)), (0, 1, 3))
        self.assertEqual(blocked_by(Season(RING, needs=[9, 9, 9]), (0,), ()), (0, 2))
        self.assertEqual(blocked_by(Season(RING, sides=[(), (0,), (0, 1)]), (), ()), (0, 1))

    def test_against_the_definition(self):
        for season in random_seasons(91, 40):
            lots = all_lots(season.valley.mills)
            for setting in all_settings(season.valley)[:12]:
                for low in lots:
                    for high in lots[::3]:
                        self.assertEqual(is_blockade(season, setting, low, high),
                                         plain_blockade(season, setting, low, high))

    def test_starved_and_saturated_mills_are_the_greatest_blockade(self):
        for season in random_seasons(92, 60):
            lots = all_lots(season.valley.mills)
            for setting in all_running(season)[:4]:
                low, high = starved(season, setting), saturated(season, setting)
                self.assertTrue(is_blockade(season, setting, low, high))
                self.assertEqual(blocked_by(season, low, high), stuck(season, setting))
                self.assertTrue(only_tuples(blocked_by(season, list(low), list(high))))
                for lot in lots:
                    self.assertTrue(not is_blockade(season, setting, lot, ()) or set(lot) <= set(low))
                    self.assertTrue(not is_blockade(season, setting, (), lot) or set(lot) <= set(high))


if __name__ == "__main__":
    unittest.main()
