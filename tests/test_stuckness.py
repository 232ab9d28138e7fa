"""Points 18 and 19: starved and saturated mills, stuck and loose sluices."""

import unittest

from millsluices.errors import NotRunning
from millsluices.seasons import Season
from millsluices.stuckness import loose, saturated, starved, stuck
from millsluices.valleys import Valley
from plain import all_running, counts, dense_seasons, large_season, only_tuples, random_seasons, reach

RING = Valley.ring(3)


def plain_links(season, setting):
    """The arcs of point 18 as pairs of mills."""
    rigid = [mill for mill in range(season.valley.mills) if season.needs[mill] == season.limits[mill]]
    return [(pair[1 - side], pair[side]) for pair, side, let in zip(season.valley.sluices, setting, season.sides)
            if let == (0, 1) and not set(pair) & set(rigid)]


def plain_reached(links, starts):
    found = set(starts)
    while True:
        more = {head for tail, head in links if tail in found} - found
        if not more:
            return found
        found |= more


def plain_starved(season, setting):
    numbers = counts(season.valley, setting)
    back = [(head, tail) for tail, head in plain_links(season, setting)]
    rich = [mill for mill in range(season.valley.mills) if numbers[mill] > season.needs[mill]]
    return tuple(mill for mill in range(season.valley.mills)
                 if season.needs[mill] != season.limits[mill] and mill not in plain_reached(back, rich))


def plain_saturated(season, setting):
    numbers = counts(season.valley, setting)
    roomy = [mill for mill, limit in enumerate(season.limits) if limit is None or numbers[mill] < limit]
    return tuple(mill for mill in range(season.valley.mills) if season.needs[mill] != season.limits[mill]
                 and mill not in plain_reached(plain_links(season, setting), roomy))


class StucknessTest(unittest.TestCase):
    def test_ordinary(self):
        season = Season(RING, needs=[1, 1, 1])
        self.assertEqual(starved(season, (0, 0, 0)), (0, 1, 2))
        self.assertEqual(saturated(season, (0, 0, 0)), ())
        self.assertEqual(stuck(season, (0, 0, 0)), (0, 1, 2))
        self.assertEqual(loose(season, (0, 0, 0)), ())

    def test_a_spare_saves_the_mills_from_which_paths_lead_to_it(self):
        season = Season(Valley.row(3), needs=[1, 0, 0])
        self.assertEqual(starved(season, (0, 0)), (0,))
        self.assertEqual(stuck(season, (0, 0)), (0,))
        self.assertEqual(loose(season, (0, 0)), (1,))
        self.assertEqual(starved(Season(Valley.row(3), needs=[1, 1, 0]), (0, 0)), (0, 1, 2))
        self.assertEqual(loose(Season(Valley.row(3)), (0, 1)), (0, 1))

    def test_saturated(self):
        season = Season(Valley.row(3), limits=[0, 1, None])
        self.assertEqual(saturated(season, (1, 1)), (1,))
        self.assertEqual(stuck(season, (1, 1)), (0, 1))

    def test_rigid_mills_are_neither_starved_nor_saturated(self):
        season = Season(RING, needs=[1, 0, 0], limits=[1, None, None])
        self.assertEqual(starved(season, (0, 0, 0)), ())
        self.assertEqual(saturated(season, (0, 0, 0)), ())
        self.assertEqual(stuck(season, (0, 0, 0)), (0, 2))
        self.assertEqual(loose(season, (0, 0, 0)), (1,))

    def test_set_sluices_are_stuck_and_give_no_arc(self):
        season = Season(RING, needs=[1, 1, 0], sides=[(0, 1), (0, 1), (0,)])
        self.assertEqual(starved(season, (0, 0, 0)), (0, 1))
        self.assertEqual(stuck(season, (0, 0, 0)), (0, 1, 2))

    def test_no_limit_means_room(self):
        self.assertEqual(saturated(Season(RING), (0, 0, 0)), ())
        self.assertEqual(saturated(Season(RING, limits=[1, 1, 1]), (0, 0, 0)), (0, 1, 2))
        self.assertEqual(saturated(Season(RING, limits=[10 ** 40, 1, 1]), (0, 0, 0)), ())

    def test_no_sluices(self):
        season = Season(Valley(2), limits=[0, None])
        self.assertEqual(starved(season, ()), (1,))
        self.assertEqual(saturated(season, ()), ())
        self.assertEqual((stuck(season, ()), loose(season, [])), ((), ()))

    def test_not_running(self):
        season = Season(RING, needs=[1, 1, 1])
        for call in (starved, saturated, stuck, loose):
            with self.assertRaises(NotRunning) as caught:
                call(season, [0, 1, 1])
            self.assertEqual(caught.exception.setting, (0, 1, 1))
            self.assertTrue(only_tuples(caught.exception.setting))
            with self.assertRaises(NotRunning):
                call(Season(RING, needs=[2, 2, 0]), (0, 0, 0))

    def test_against_plain_search(self):
        for season in random_seasons(71, 200) + dense_seasons(72, 20):
            for setting in all_running(season):
                self.assertEqual(starved(season, setting), plain_starved(season, setting))
                self.assertEqual(saturated(season, setting), plain_saturated(season, setting))

    def test_walks_turn_the_loose_sluices_and_no_other(self):
        for season in random_seasons(73, 150) + dense_seasons(74, 15):
            for setting in all_running(season)[:6]:
                members = reach(season, setting)
                turned = tuple(at for at in range(len(setting)) if any(other[at] != setting[at] for other in members))
                self.assertEqual(loose(season, setting), turned)
                self.assertEqual(stuck(season, setting), tuple(sorted(set(range(len(setting))) - set(turned))))
                for other in list(members)[:5]:
                    self.assertEqual(starved(season, other), starved(season, setting))
                    self.assertEqual(saturated(season, other), saturated(season, setting))

    def test_large_season(self):
        for seed in range(5):
            season, setting = large_season(seed)
            self.assertEqual(starved(season, setting), plain_starved(season, setting))
            self.assertEqual(saturated(season, setting), plain_saturated(season, setting))
            self.assertEqual(sorted(stuck(season, setting) + loose(season, setting)), list(range(48)))


if __name__ == "__main__":
    unittest.main()
