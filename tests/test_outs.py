"""Point 31: stops that are let."""

import random
import unittest

from millsluices.connections import connect
from millsluices.errors import NotRunning, SluiceError
from millsluices.outs import greatest_out, outs_needed, strained_turns
from millsluices.running import first_running
from millsluices.seasons import Season
from millsluices.settings import turned
from millsluices.valleys import Valley
from millsluices.walks import is_walk
from plain import (all_running, counts, dense_seasons, flip, large_season, only_tuples, random_seasons,
                   unset_sluices)

RING = Valley.ring(3)
FULL = Season(RING, needs=[1, 1, 1])
RIGID = Season(RING, needs=[1, 1, 1], limits=[1, 1, 1])


def plain_out(season, setting):
    return [mill for mill, count in enumerate(counts(season.valley, setting)) if count < season.needs[mill]
            or (season.limits[mill] is not None and count > season.limits[mill])]


def plain_needed(season, one, two):
    """The least number of mills out, by a search that lets one mill more be out until it comes through."""
    for most in range(season.valley.mills + 1):
        found, queue = {one}, [one]
        while queue:
            setting = queue.pop()
            for sluice in unset_sluices(season):
                after = flip(setting, sluice)
                if after not in found and len(plain_out(season, after)) <= most:
                    found.add(after)
                    queue.append(after)
        if two in found:
            return most
    raise AssertionError("two running settings are always joined")


class GreatestOutTest(unittest.TestCase):
    def test_ordinary(self):
        self.assertEqual(greatest_out(FULL, (0, 0, 0), [0, 1]), 1)
        self.assertEqual(greatest_out(FULL, (0, 0, 0), (0, 1, 2)), 1)
        self.assertEqual(greatest_out(RIGID, [0, 0, 0], [0, 1, 2]), 2)
        self.assertEqual(greatest_out(Season(RING, needs=[2, 2, 2]), (0, 0, 0), [0, 0]), 3)

    def test_no_turns(self):
        self.assertEqual(greatest_out(FULL, (0, 0, 0), []), 0)
        self.assertEqual(greatest_out(season=FULL, setting=(0, 1, 1), turns=()), 0)

    def test_setting_before_the_first_turn_does_not_count(self):
        self.assertEqual(greatest_out(FULL, (1, 0, 0), [0]), 0)
        self.assertEqual(greatest_out(FULL, (1, 0, 0), [0, 0]), 1)

    def test_sides_that_are_not_let_do_not_count(self):
        for sides in ([(0,), (0,), (0,)], [(), (), ()]):
            self.assertEqual(greatest_out(Season(RING, sides=sides), (0, 1, 1), [0, 1, 2, 2]), 0)

    def test_against_plain_count(self):
        rng = random.Random(1)
        for season in random_seasons(2, 100):
            size = len(season.valley)
            setting = tuple(rng.randint(0, 1) for _ in range(size))
            turns = [rng.randrange(size) for _ in range(rng.randint(0, 6))] if size else []
            passed = [turned(setting, turns[:many + 1]) for many in range(len(turns))]
            self.assertEqual(greatest_out(season, setting, turns),
                             max([len(plain_out(season, after)) for after in passed], default=0))


class StrainedTest(unittest.TestCase):
    def check(self, season, one, two):
        """The turns prove themselves; return the number of mills that must be out."""
        needed = outs_needed(season, one, two)
        turns = strained_turns(season, one, two)
        self.assertTrue(only_tuples(turns) and all(sluice in season.unset for sluice in turns))
        self.assertEqual(turned(one, turns), two)
        self.assertEqual(greatest_out(season, one, turns), needed)
        apart = [sluice for sluice in range(len(one)) if one[sluice] != two[sluice]]
        self.assertTrue(len(turns) <= season.valley.mills * len(apart))
        setting = one
        for sluice in turns:
            setting = flip(setting, sluice)
            numbers = counts(season.valley, setting)
            for mill in plain_out(season, setting):
                limit = season.limits[mill]
                self.assertTrue(numbers[mill] == season.needs[mill] - 1 or numbers[mill] - 1 == limit)
        self.assertEqual(needed == 0, connect(season, one, two).joined)
        self.assertEqual(needed == 0, is_walk(season, one, turns))
        return needed

    def test_ordinary(self):
        self.assertEqual(self.check(FULL, (0, 0, 0), (1, 1, 1)), 1)
        self.assertEqual(self.check(RIGID, (0, 0, 0), (1, 1, 1)), 2)
        self.assertEqual(self.check(Season(RING, needs=[1, 1, 0]), (0, 0, 0), (1, 1, 1)), 0)

    def test_equal_settings(self):
        for season in (FULL, RIGID, Season(RING)):
            self.assertEqual(outs_needed(season, [0, 0, 0], (0, 0, 0)), 0)
            self.assertEqual(strained_turns(season, [0, 0, 0], (0, 0, 0)), ())
        self.assertEqual((outs_needed(Season(Valley(1)), (), ()), strained_turns(Season(Valley(1)), (), ())), (0, ()))

    def test_row_between_rigid_mills(self):
        season = Season(Valley.row(3), needs=[0, 1, 0], limits=[None, 1, None])
        self.assertEqual(self.check(season, (0, 0), (1, 1)), 1)

    def test_set_sluices_are_not_turned(self):
        pairs = [(0, 1), (1, 0), (1, 2)]
        let = Season(Valley(3, pairs), needs=[1, 1, 0], limits=[1, None, None])
        self.assertEqual(self.check(let, (0, 0, 0), (1, 1, 0)), 1)
        shut = Season(Valley(3, pairs), needs=[1, 1, 0], limits=[1, 1, None], sides=[(0, 1), (0, 1), (1,)])
        self.assertEqual(self.check(shut, (0, 0, 1), (1, 1, 1)), 2)

    def test_spare_and_room_from_far_away(self):
        pairs = [(0, 1), (1, 0)] + [(mill, mill + 1) for mill in range(1, 23)]
        up, down = (1,) * 22, (0,) * 22
        spare = Season(Valley(24, pairs), needs=[1] * 23 + [0], limits=[1] * 24)
        self.assertEqual(self.check(spare, (0, 0) + up, (1, 1) + up), 1)
        room = Season(Valley(24, pairs), needs=[1, 2] + [1] * 21 + [0], limits=[1, 2] + [1] * 22)
        self.assertEqual(self.check(room, (0, 0) + down, (1, 1) + down), 1)
        rigid = Season(Valley(24, pairs), needs=[1] * 24, limits=[1] * 24)
        self.assertEqual(self.check(rigid, (0, 0) + up, (1, 1) + up), 2)

    def test_several_level_patches(self):
        season = Season(RING + RING, needs=[1] * 6, limits=[1, 1, 1, None, 1, 1])
        self.assertEqual(self.check(season, (0,) * 6, (1,) * 6), 2)
        self.assertEqual(self.check(season, (0,) * 6, (0,) * 3 + (1,) * 3), 1)

    def test_not_running(self):
        for one, two in (([0, 1, 1], (0, 0, 0)), ((0, 0, 0), [0, 1, 1]), ([0, 1, 1], [0, 1, 0])):
            for call in (outs_needed, strained_turns):
                with self.assertRaises(NotRunning) as caught:
                    call(season=FULL, one=one, two=two)
                self.assertEqual(caught.exception.setting, (0, 1, 1))
                self.assertIsInstance(caught.exception, SluiceError)

    def test_against_plain_search(self):
        rng = random.Random(3)
        needed = []
        for season in (random_seasons(4, 120, tight=0.9) + dense_seasons(5, 25)
                       + dense_seasons(6, 25, mills=5, sluices=6)):
            plain = all_running(season)
            for one in rng.sample(plain, min(4, len(plain))):
                for two in rng.sample(plain, min(4, len(plain))):
                    needed.append(self.check(season, one, two))
                    self.assertEqual(needed[-1], plain_needed(season, one, two))
        self.assertTrue({0, 1} <= set(needed))

    def test_rigid_rings_against_plain_search(self):
        rng = random.Random(7)
        needed = []
        for _ in range(60):
            pairs = [tuple(rng.sample(range(4), 2)) for _ in range(6)]
            valley = Valley(4, pairs)
            base = counts(valley, [rng.randint(0, 1) for _ in pairs])
            slack = rng.randrange(4)
            season = Season(valley, needs=[count - (rng.random() < 0.2) if count else 0 for count in base],
                            limits=[None if rng.random() < 0.1 and mill == slack else count
                                    for mill, count in enumerate(base)])
            plain = all_running(season)
            for one in rng.sample(plain, min(3, len(plain))):
                for two in plain:
                    needed.append(self.check(season, one, two))
                    self.assertEqual(needed[-1], plain_needed(season, one, two))
        self.assertEqual(set(needed), {0, 1, 2})

    def test_large_seasons(self):
        needed = []
        for seed in range(24):
            season, setting = large_season(seed, slack=seed % 3)
            other = first_running(season)
            needed.append(self.check(season, setting, other))
            needed.append(self.check(season, other, setting))
        for season, ends in ((Season(Valley.ring(24), needs=[1] * 24), 1),
                             (Season(Valley.ring(24), needs=[1] * 24, limits=[1] * 24), 2)):
            needed.append(self.check(season, (0,) * 24, (1,) * 24))
            self.assertEqual(needed[-1], ends)
        self.assertEqual(set(needed), {0, 1, 2})

    def test_large_numbers(self):
        season = Season(RING, needs=[1, 1, 1], limits=[10 ** 40, None, 10 ** 40])
        self.assertEqual(self.check(season, (0, 0, 0), (1, 1, 1)), 1)


if __name__ == "__main__":
    unittest.main()
