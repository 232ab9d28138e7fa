"""Points 8 to 10: seasons."""

import itertools
import random
import unittest

from millsluices.errors import BadLimit, BadNeed, BadSides, BadSluice, ValleysDiffer
from millsluices.seasons import Season, narrowed
from millsluices.valleys import Valley
from plain import all_settings, counts, only_tuples, random_season, random_valley, runs

RING = Valley.ring(3)
BIG = 10 ** 50


class MakingTest(unittest.TestCase):
    def test_defaults(self):
        season = Season(RING)
        self.assertEqual(season.valley, RING)
        self.assertEqual(season.needs, (0, 0, 0))
        self.assertEqual(season.limits, (None, None, None))
        self.assertEqual(season.sides, ((0, 1), (0, 1), (0, 1)))

    def test_fields(self):
        season = Season(RING, needs=[1, 0, BIG], limits=[None, 0, BIG], sides=[[0, 1], [], (1,)])
        self.assertEqual(season.needs, (1, 0, BIG))
        self.assertEqual(season.limits, (None, 0, BIG))
        self.assertEqual(season.sides, ((0, 1), (), (1,)))
        self.assertTrue(only_tuples((season.needs, season.limits, season.sides)))

    def test_no_sluices(self):
        self.assertEqual(Season(Valley(1), sides=[]).sides, ())
        self.assertTrue(() in Season(Valley(1)))
        self.assertFalse(() in Season(Valley(1), needs=[1]))

    def test_limit_less_than_need(self):
        season = Season(RING, needs=[2, 0, 0], limits=[1, None, None])
        self.assertFalse(any(setting in season for setting in all_settings(RING)))

    def test_bad_need(self):
        cases = (([0, 1], 2), ([], 0), ([0, 1, 2, 3], 3), ([0, -1, 0], 1), ([0, 0, None], 2), ([-1, -1], 0),
                 ([0, None, 0, 0], 1), ([0, 0, 0, -1], 3))
        for needs, index in cases:
            with self.subTest(needs), self.assertRaises(BadNeed) as caught:
                Season(RING, needs=needs)
            self.assertEqual(caught.exception.index, index)

    def test_bad_limit(self):
        cases = (([0, 1], 2), ([], 0), ([0, 1, 2, 3], 3), ([None, -1, 0], 1), ([None, None, None, None], 3),
                 ([-5, None], 0))
        for limits, index in cases:
            with self.subTest(limits), self.assertRaises(BadLimit) as caught:
                Season(RING, limits=limits)
            self.assertEqual(caught.exception.index, index)

    def test_bad_sides(self):
        good = (0, 1)
        cases = (([good, good], 2), ([], 0), ([good] * 4, 3), ([good, (1, 0), good], 1), ([(2,), good, good], 0),
                 ([good, good, (0, 0)], 2), ([good, (0, 1, 1), good], 1), ([(-1,), good], 0), ([(0,), [1], [0, 2]], 2))
        for sides, index in cases:
            with self.subTest(sides), self.assertRaises(BadSides) as caught:
                Season(RING, sides=sides)
            self.assertEqual(caught.exception.index, index)

    def test_order_of_errors(self):
        with self.assertRaises(BadNeed):
            Season(RING, sides=[], limits=[], needs=[])
        with self.assertRaises(BadLimit):
            Season(RING, sides=[], limits=[], needs=[0, 0, 0])
        with self.assertRaises(BadLimit):
            Season(RING, sides=[], limits=[0, 0, -1])
        with self.assertRaises(BadSides):
            Season(RING, sides=[], limits=[0, 0, 1])

    def test_a_later_change_of_lists_has_no_effect(self):
        needs, limits, sides = [1, 0, 0], [None, 2, 1], [[0], [0, 1], [1]]
        season = Season(RING, needs=needs, limits=limits, sides=sides)
        needs[0] = limits[0] = 5
        sides[0].append(1)
        sides.pop()
        self.assertEqual(season, Season(RING, needs=(1, 0, 0), limits=(None, 2, 1), sides=((0,), (0, 1), (1,))))


class RunningTest(unittest.TestCase):
    def test_in(self):
        season = Season(RING, needs=[1, 1, 1])
        self.assertIs((0, 0, 0) in season, True)
        self.assertIs([1, 1, 1] in season, True)
        self.assertIs((0, 1, 1) in season, False)
        self.assertFalse((0, 0, 0) in Season(RING, needs=[BIG, 0, 0]))
        self.assertTrue((0, 0, 0) in Season(RING, limits=[BIG, None, 1]))
        self.assertFalse((0, 0, 0) in Season(RING, limits=[None, 0, None]))
        self.assertFalse((0, 0, 0) in Season(RING, sides=[(0, 1), (1,), (0,)]))
        self.assertFalse((0, 0, 0) in Season(RING, sides=[(), (0, 1), (0, 1)]))

    def test_in_against_plain_count(self):
        rng = random.Random(8)
        for _ in range(150):
            season = random_season(rng)
            for setting in all_settings(season.valley):
                self.assertEqual(setting in season, runs(season, setting))

    def test_out(self):
        season = Season(RING, needs=[1, 1, 1], limits=[1, None, 1])
        self.assertEqual(season.out((0, 1, 1)), (0, 1))
        self.assertEqual(season.out([0, 0, 0]), ())
        self.assertEqual(Season(RING, needs=[1, 1, 1], sides=[(), (), ()]).out((0, 0, 0)), ())
        self.assertEqual(Season(RING, needs=[1, 0, 0], limits=[0, None, None]).out((0, 0, 0)), (0,))

    def test_out_against_plain_count(self):
        rng = random.Random(9)
        for _ in range(60):
            season = random_season(rng)
            for setting in all_settings(season.valley):
                numbers = counts(season.valley, setting)
                plain = tuple(mill for mill, number in enumerate(numbers) if number < season.needs[mill]
                              or season.limits[mill] is not None and number > season.limits[mill])
                self.assertEqual(season.out(setting), plain)

    def test_strayed(self):
        season = Season(RING, needs=[9, 9, 9], sides=[(0,), (), (0, 1)])
        self.assertEqual(season.strayed((0, 0, 0)), (1,))
        self.assertEqual(season.strayed(setting=[1, 1, 1]), (0, 1))
        self.assertEqual(Season(RING).strayed((1, 0, 1)), ())

    def test_rigid_and_unset(self):
        season = Season(RING, needs=[1, 0, 2], limits=[1, 0, None], sides=[(0, 1), (), (1,)])
        self.assertEqual(season.rigid, (0, 1))
        self.assertEqual(season.unset, (0,))
        self.assertEqual((Season(RING).rigid, Season(RING).unset), ((), (0, 1, 2)))
        self.assertEqual(Season(RING, needs=[1, 1, 1], limits=[0, 2, BIG]).rigid, ())

    def test_equality(self):
        season = Season(RING, needs=[1, 0, 0], limits=[1, None, 2], sides=[(0,), (0, 1), (0, 1)])
        self.assertTrue(season == Season(RING, needs=(1, 0, 0), limits=(1, None, 2), sides=([0], [0, 1], [0, 1])))
        self.assertTrue(Season(RING) == Season(RING, needs=[0, 0, 0], limits=[None] * 3, sides=[[0, 1]] * 3))
        for other in (Season(RING, needs=[1, 0, 0]), Season(RING, limits=[1, None, 2]), Season(RING),
                      Season(Valley(3, [(0, 1), (1, 2), (0, 2)])), Season(RING, sides=[(0,), (0, 1), (0, 1)])):
            self.assertFalse(season == other)
            self.assertTrue(season != other)
        for value in (None, 0, (), RING, season.needs):
            self.assertFalse(season == value)
            self.assertTrue(season != value)


class NewSeasonsTest(unittest.TestCase):
    one = Season(RING, needs=[1, 0, 2], limits=[None, 3, 2], sides=[(0, 1), (0,), (1,)])
    two = Season(RING, needs=[0, 1, 2], limits=[4, None, 5], sides=[(1,), (1,), (0, 1)])

    def tearDown(self):
        """No new season changes an old one."""
        self.assertEqual(self.one, Season(RING, needs=[1, 0, 2], limits=[None, 3, 2], sides=[(0, 1), (0,), (1,)]))
        self.assertEqual(self.two, Season(RING, needs=[0, 1, 2], limits=[4, None, 5], sides=[(1,), (1,), (0, 1)]))

    def test_and(self):
        both = Season(RING, needs=[1, 1, 2], limits=[4, 3, 2], sides=[(1,), (), (1,)])
        self.assertEqual(self.one & self.two, both)
        self.assertEqual(self.two & self.one, both)
        self.assertEqual(Season(RING) & Season(RING), Season(RING))

    def test_or(self):
        either = Season(RING, needs=[0, 0, 2], limits=[None, None, 5], sides=[(0, 1), (0, 1), (0, 1)])
        self.assertEqual(self.one | self.two, either)
        self.assertEqual(self.two | self.one, either)
        none = Season(RING, sides=[(), (1,), ()])
        self.assertEqual((none | Season(RING, sides=[(), (0,), (1,)])).sides, ((), (0, 1), (1,)))

    def test_and_runs_exactly_if_both_run(self):
        rng = random.Random(3)
        for _ in range(60):
            valley = random_valley(rng)
            one, two = random_season(rng, valley), random_season(rng, valley)
            for setting in all_settings(valley):
                self.assertEqual(setting in one & two, setting in one and setting in two)
                if setting in one or setting in two:
                    self.assertTrue(setting in one | two)

    def test_valleys_differ(self):
        for other in (Season(Valley.ring(2)), Season(Valley(3, [(1, 0), (1, 2), (2, 0)])), Season(Valley(3))):
            with self.assertRaises(ValleysDiffer):
                self.one & other
            with self.assertRaises(ValleysDiffer):
                self.one | other
            with self.assertRaises(ValleysDiffer):
                narrowed(self.one, self.two, other)

    def test_narrowed(self):
        three = Season(RING, needs=[5, 0, 0])
        self.assertEqual(narrowed(self.one), self.one)
        self.assertEqual(narrowed(first=self.one), self.one)
        self.assertEqual(narrowed(self.one, self.two), self.one & self.two)
        self.assertEqual(narrowed(self.one, self.two, three), self.one & self.two & three)

    def test_pinned(self):
        season = Season(RING, sides=[(0, 1), (0,), (1,)])
        self.assertEqual(season.pinned((1, 1, 1), [2, 1, 0, 0]).sides, ((1,), (), (1,)))
        self.assertEqual(season.pinned([0, 0, 0], (0,)).sides, ((0,), (0,), (1,)))
        self.assertEqual(season.pinned(setting=(0, 0, 0), sluices=()), season)
        self.assertEqual(self.one.pinned((1, 0, 1), [0]), Season(RING, needs=[1, 0, 2], limits=[None, 3, 2],
                                                                   sides=[(1,), (0,), (1,)]))

    def test_freed(self):
        season = Season(RING, needs=[1, 0, 0], sides=[(0, 1), (), (1,)])
        self.assertEqual(season.freed([1, 1]), Season(RING, needs=[1, 0, 0], sides=[(0, 1), (0, 1), (1,)]))
        self.assertEqual(season.freed(sluices=(2, 0, 1)), Season(RING, needs=[1, 0, 0]))
        self.assertEqual(season.freed(()), season)

    def test_resting(self):
        self.assertEqual(self.one.resting([2, 0, 2]), Season(RING, needs=[0, 0, 0], limits=[None, 3, None],
                                                             sides=[(0, 1), (0,), (1,)]))
        self.assertEqual(self.one.resting(lot=()), self.one)

    def test_loosened(self):
        self.assertEqual(self.one.loosened([2, 1, 2, 2, 0], [0, 2, 1, 2]),
                         Season(RING, needs=[0, 0, 0], limits=[None, 4, 4], sides=[(0, 1), (0,), (1,)]))
        self.assertEqual(self.one.loosened(lowered=(2,), raised=()),
                         Season(RING, needs=[1, 0, 1], limits=[None, 3, 2], sides=[(0, 1), (0,), (1,)]))
        self.assertEqual(self.one.loosened((), ()), self.one)

    def test_built(self):
        new = self.one.built([[0, 1], (2, 0)])
        self.assertEqual(new, Season(RING.built([(0, 1), (2, 0)]), needs=[1, 0, 2], limits=[None, 3, 2],
                                     sides=[(0, 1), (0,), (1,), (0, 1), (0, 1)]))
        self.assertEqual(self.one.built(pairs=()), self.one)
        with self.assertRaises(BadSluice) as caught:
            self.one.built([(0, 1), (1, 1)])
        self.assertEqual(caught.exception.index, 4)

    def test_without(self):
        new = self.one.without([1, 1])
        self.assertEqual(new, Season(Valley(3, [(0, 1), (2, 0)]), needs=[1, 0, 2], limits=[None, 3, 2],
                                     sides=[(0, 1), (1,)]))
        self.assertEqual(self.one.without(sluices=()), self.one)
        self.assertEqual(self.one.without((0, 1, 2)).sides, ())

    def test_only(self):
        for setting in itertools.product((0, 1), repeat=3):
            season = Season.only(RING, list(setting))
            self.assertEqual(season, Season(RING, sides=[(side,) for side in setting]))
            self.assertEqual([other for other in all_settings(RING) if other in season], [setting])
        self.assertEqual(Season.only(valley=Valley(2), setting=()), Season(Valley(2)))
        self.assertEqual(self.one.only(RING, (0, 0, 0)).sides, ((0,), (0,), (0,)))


if __name__ == "__main__":
    unittest.main()
