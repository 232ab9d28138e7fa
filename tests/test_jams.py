"""Point 33: jams."""

import itertools
import random
import unittest

from millsluices.errors import NotRunning, SluiceError, ValleysDiffer
from millsluices.jams import fatal_jams, jam_strength, stoutest, survives
from millsluices.seasons import Season
from millsluices.valleys import Valley
from plain import (all_lots, all_running, ball, dense_seasons, jammed_ball, only_tuples, random_seasons, random_wishes,
                   runs, unset_sluices)

RING = Valley.ring(3)
WIDE = Season(RING.built([(0, 1)]), needs=[1, 1, 1])
WISH = Season(WIDE.valley, needs=[1, 2, 1])
ZERO = (0, 0, 0, 0)
OTHER = Season(Valley.ring(4))


def plain_survives(season, wishes, setting, jam):
    found = jammed_ball(season, setting, jam)
    return all(any(runs(wish, after) for after in found) for wish in wishes)


def all_jams(season):
    unset = unset_sluices(season)
    return [tuple(unset[at] for at in lot) for lot in all_lots(len(unset))]


def plain_strength(season, wishes, setting):
    for jam in all_jams(season):
        if not plain_survives(season, wishes, setting, jam):
            return len(jam) - 1
    return None


class JamsTest(unittest.TestCase):
    def test_ordinary(self):
        self.assertIs(survives(WIDE, [WISH], ZERO, [0, 1]), True)
        self.assertIs(survives(WIDE, [WISH], [0, 0, 0, 0], (3, 0)), False)
        self.assertEqual(list(fatal_jams(WIDE, [WISH], ZERO, most=3)), [(0, 3)])
        self.assertEqual(jam_strength(WIDE, [WISH], ZERO), 1)
        self.assertEqual(stoutest(WIDE, [WISH], ZERO), (None, (0, 0, 0, 1)))

    def test_no_wishes(self):
        self.assertIs(survives(WIDE, [], ZERO, [0, 1, 2, 3]), True)
        self.assertEqual(list(fatal_jams(WIDE, (), ZERO, most=10)), [])
        self.assertIsNone(jam_strength(WIDE, (), ZERO))
        self.assertEqual(stoutest(WIDE, [], (0, 0, 0, 1)), (None, ZERO))

    def test_empty_jam(self):
        far = Season(WIDE.valley, needs=[2, 2, 1])
        self.assertIs(survives(WIDE, [WISH], ZERO, []), True)
        self.assertIs(survives(WIDE, [WISH, far], ZERO, ()), False)
        self.assertEqual(list(fatal_jams(WIDE, [WISH, far], ZERO, most=4)), [()])
        self.assertEqual(list(fatal_jams(WIDE, [far], ZERO, most=0)), [()])
        self.assertEqual(jam_strength(WIDE, [WISH, far], ZERO), -1)
        self.assertEqual(stoutest(WIDE, [far], (0, 0, 0, 1)), (-1, ZERO))

    def test_wishes_are_met_each_by_itself(self):
        season = Season(Valley(2, [(0, 1), (0, 1)]))
        wishes = [Season(season.valley, needs=[2, 0]), Season(season.valley, needs=[0, 2])]
        self.assertEqual(jam_strength(season, wishes, (0, 0)), 0)
        self.assertEqual(list(fatal_jams(season, wishes, (0, 1), most=9)), [(0,), (1,)])
        self.assertEqual(stoutest(season, wishes, (1, 1)), (0, (0, 0)))

    def test_most_bounds_the_jams(self):
        for most, found in ((0, []), (1, []), (2, [(0, 3)]), (10, [(0, 3)])):
            self.assertEqual(list(fatal_jams(season=WIDE, wishes=[WISH], setting=ZERO, most=most)), found)

    def test_set_sluices_do_not_jam(self):
        season = Season(WIDE.valley, needs=[1, 1, 1], sides=[(0,), (0, 1), (0, 1), (0, 1)])
        self.assertEqual(list(fatal_jams(season, [WISH], ZERO, most=4)), [(3,)])
        shut = Season(WIDE.valley, sides=[(0,)] * 4)
        self.assertEqual(list(fatal_jams(shut, [Season(WIDE.valley)], ZERO, most=10)), [])
        self.assertIsNone(jam_strength(shut, [Season(WIDE.valley)], ZERO))
        self.assertEqual(jam_strength(shut, [WISH], ZERO), -1)

    def test_jam_in_any_order_and_repeated(self):
        self.assertIs(survives(WIDE, [WISH], ZERO, [3, 0, 3, 0]), False)
        self.assertIs(survives(WIDE, [WISH], ZERO, [1, 2, 1]), True)

    def test_order_by_size(self):
        season = Season(Valley(3, [(0, 1), (0, 1), (1, 2), (0, 2)]))
        wishes = [Season(season.valley, needs=[0, 2, 0]), Season(season.valley, needs=[0, 0, 1])]
        jams = list(fatal_jams(season, wishes, (0, 0, 0, 0), most=4))
        self.assertEqual(jams, [(0, 1), (2, 3)])

    def test_generator(self):
        with self.assertRaises(NotRunning):
            next(fatal_jams(WIDE, [WISH], (0, 1, 1, 0), most=1))
        season = Season(Valley(2, [(0, 1)] * 3))
        wishes = [Season(season.valley, needs=[3, 0])]
        one, two = [fatal_jams(season, wishes, (1, 1, 1), most=1) for _ in range(2)]
        self.assertEqual([next(one), next(two), next(two)], [(0,), (0,), (1,)])
        one.close()
        self.assertEqual(list(two), [(2,)])
        self.assertEqual(list(fatal_jams(season, wishes, (1, 1, 1), most=1)), [(0,), (1,), (2,)])

    def test_errors_and_their_order(self):
        calls = [lambda wishes, setting: survives(WIDE, wishes, setting, [0]),
                 lambda wishes, setting: list(fatal_jams(WIDE, wishes, setting, most=2)),
                 lambda wishes, setting: jam_strength(WIDE, wishes, setting),
                 lambda wishes, setting: stoutest(WIDE, wishes, setting)]
        for call in calls:
            for wishes in ([OTHER], [WISH, OTHER], [OTHER, WISH]):
                with self.assertRaises(ValleysDiffer) as caught:
                    call(wishes, (0, 1, 1, 0))
                self.assertIsInstance(caught.exception, SluiceError)
                with self.assertRaises(ValleysDiffer):
                    call(wishes, ZERO)
            for wishes in ([], [WISH]):
                with self.assertRaises(NotRunning) as caught:
                    call(wishes, [0, 1, 1, 0])
                self.assertEqual(caught.exception.setting, (0, 1, 1, 0))

    def test_against_plain_search(self):
        rng = random.Random(1)
        strengths = set()
        for season in random_seasons(2, 50) + dense_seasons(3, 12, sluices=5) + dense_seasons(4, 8, sluices=6):
            plain = all_running(season)
            for setting in rng.sample(plain, min(2, len(plain))):
                wishes = random_wishes(rng, season, rng.randint(0, 3))
                jams = all_jams(season)
                good = {jam: plain_survives(season, wishes, setting, jam) for jam in jams}
                for jam in rng.sample(jams, min(10, len(jams))):
                    self.assertIs(survives(season, wishes, setting, list(jam)), good[jam])
                fatal = [jam for jam in jams if not good[jam] and all(
                    good[part] for size in range(len(jam)) for part in itertools.combinations(jam, size))]
                for most in (0, 1, 2, 10):
                    self.assertEqual(list(fatal_jams(season, wishes, setting, most=most)),
                                     [jam for jam in fatal if len(jam) <= most])
                strength = plain_strength(season, wishes, setting)
                self.assertEqual(jam_strength(season, wishes, setting), strength)
                strengths.add(strength)
        self.assertTrue({None, -1, 0, 1, 2} <= strengths)

    def test_stoutest_against_plain_search(self):
        rng = random.Random(5)
        strengths = set()
        for season in random_seasons(6, 60) + dense_seasons(7, 10, sluices=5):
            plain = all_running(season)
            for setting in rng.sample(plain, min(1, len(plain))):
                wishes = random_wishes(rng, season, rng.randint(1, 3))
                found = {after: plain_strength(season, wishes, after) for after in sorted(ball(season, setting))}
                ranks = {after: 99 if number is None else number for after, number in found.items()}
                best = next(after for after in found if ranks[after] == max(ranks.values()))
                answer = stoutest(season, wishes, list(setting))
                self.assertEqual(answer, (found[best], best))
                self.assertTrue(only_tuples(answer))
                strengths.add(found[best])
        self.assertTrue({None, -1, 0} <= strengths)

    def test_ten_sluices(self):
        season = Season(Valley(2, [(0, 1)] * 10))
        wishes = [Season(season.valley, needs=[5, 0]), Season(season.valley, needs=[0, 6])]
        half = (0,) * 5 + (1,) * 5
        self.assertEqual(jam_strength(season, wishes, half), 4)
        self.assertEqual(stoutest(season, wishes, half), (5, (0,) * 4 + (1,) * 6))


if __name__ == "__main__":
    unittest.main()
