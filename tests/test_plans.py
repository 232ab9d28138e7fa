"""Point 34: unknown jams."""

import random
import unittest

from millsluices.errors import EndlessPlan, NotRunning, SluiceError, ValleysDiffer
from millsluices.plans import Plan, find_plan, follow_plan, is_plan
from millsluices.seasons import Season
from millsluices.valleys import Valley
from plain import (all_lots, all_running, counts, dense_seasons, flip, jammed_ball, only_tuples, random_seasons,
                   random_wishes, runs, same_as, unset_sluices)

RING = Valley.ring(3)
WIDE = Season(RING.built([(0, 1)]), needs=[1, 1, 1])
WISH = Season(WIDE.valley, needs=[1, 2, 1])
ZERO = (0, 0, 0, 0)
ROWS = ((ZERO, (), 3), (ZERO, (3,), 0))
LOOP = Plan([((0, 0), (), 0), ((1, 0), (), 0)])


def jams_up_to(season, most):
    unset = unset_sluices(season)
    return [tuple(unset[at] for at in lot) for lot in all_lots(len(unset)) if len(lot) <= most]


def plain_good(season, wish, setting, rows, jam):
    """Follow the rows as the document says, for more tries than there are settings and known jams."""
    known = ()
    for _ in range(2 ** len(setting) * (len(setting) + 1) + 1):
        chosen = [sluice for row, jams, sluice in rows if (tuple(row), tuple(jams)) == (setting, known)]
        if not chosen:
            return runs(wish, setting)
        if chosen[0] not in unset_sluices(season):
            return False
        if chosen[0] in jam:
            known = tuple(sorted({*known, chosen[0]}))
        else:
            setting = flip(setting, chosen[0])
            if not runs(season, setting):
                return False
    return False


def plain_is_plan(season, wish, setting, rows, most):
    return all(plain_good(season, wish, setting, rows, jam) for jam in jams_up_to(season, most))


class PlanTest(unittest.TestCase):
    def test_rows_are_kept_as_they_were_passed(self):
        rows = [[[0, 0, 0, 0], [3], 0], (ZERO, (), 3), (ZERO, (), 3)]
        plan = Plan(rows)
        self.assertEqual(plan.rows, ((ZERO, (3,), 0), (ZERO, (), 3), (ZERO, (), 3)))
        self.assertTrue(only_tuples(plan.rows))
        rows[0][1].append(4)
        rows.clear()
        self.assertEqual((len(plan), list(plan)), (3, list(plan.rows)))
        self.assertEqual(plan(ZERO, (3,)), 0)

    def test_without_rows(self):
        plan = Plan([])
        self.assertEqual((plan.rows, len(plan), list(plan)), ((), 0, []))
        self.assertIsNone(plan(ZERO, ()))
        self.assertEqual(follow_plan(plan, ZERO, [0]), ())
        self.assertIs(is_plan(WIDE, WISH, (0, 0, 0, 1), plan, most=4), True)
        self.assertIs(is_plan(WIDE, WISH, ZERO, plan, most=0), False)

    def test_call(self):
        plan = Plan(rows=ROWS)
        self.assertEqual((plan(ZERO, ()), plan([0, 0, 0, 0], [3])), (3, 0))
        self.assertEqual(plan(setting=ZERO, known=(3,)), 0)
        self.assertIsNone(plan(ZERO, (0,)))
        self.assertIsNone(plan((0, 0, 0, 1), ()))
        self.assertEqual(Plan([(ZERO, (), 2), (ZERO, (), 1)])(ZERO, ()), 2)

    def test_equality(self):
        self.assertTrue(Plan(ROWS) == Plan([list(row) for row in ROWS]))
        self.assertFalse(Plan(ROWS) != Plan(ROWS))
        self.assertTrue(Plan(ROWS) != Plan(ROWS[::-1]))
        self.assertFalse(Plan([]) == ())
        self.assertFalse(Plan(ROWS) == ROWS)
        self.assertTrue(Plan([]) != [])


class FollowTest(unittest.TestCase):
    def test_ordinary(self):
        plan = Plan(ROWS)
        self.assertEqual(follow_plan(plan, ZERO, [1, 3]), ((3, False), (0, True)))
        self.assertEqual(follow_plan(plan, [0, 0, 0, 0], ()), ((3, True),))
        self.assertEqual(follow_plan(plan=plan, setting=ZERO, jam=[3, 0, 3, 0]), ((3, False), (0, False)))
        self.assertTrue(only_tuples(follow_plan(plan, [0, 0, 0, 0], [3])))

    def test_plans_that_never_end(self):
        with self.assertRaises(EndlessPlan) as caught:
            follow_plan(LOOP, (0, 0), [1])
        self.assertIsInstance(caught.exception, SluiceError)
        self.assertEqual(follow_plan(LOOP, (0, 0), [0]), ((0, False),))
        self.assertEqual(follow_plan(LOOP, (0, 1), []), ())

    def test_known_jam_that_is_tried_again_does_not_move(self):
        again = Plan([((0, 0), (), 0), ((0, 0), (0,), 0)])
        with self.assertRaises(EndlessPlan):
            follow_plan(again, (0, 0), [0])
        self.assertEqual(follow_plan(again, (0, 0), [1]), ((0, True),))

    def test_jams_become_known_in_ascending_tuples(self):
        plan = Plan([((0, 0, 0), (), 2), ((0, 0, 0), (2,), 0), ((0, 0, 0), (0, 2), 1)])
        self.assertEqual(follow_plan(plan, (0, 0, 0), [0, 2]), ((2, False), (0, False), (1, True)))

    def test_knows_no_season(self):
        self.assertEqual(follow_plan(Plan([((0,) * 30, (), 29)]), (0,) * 30, [7]), ((29, True),))
        self.assertEqual(follow_plan(Plan(ROWS), (0, 1), [0]), ())


class IsPlanTest(unittest.TestCase):
    def test_ordinary(self):
        plan = Plan(ROWS)
        self.assertIs(is_plan(WIDE, WISH, ZERO, plan, most=1), True)
        self.assertIs(is_plan(WIDE, WISH, [0, 0, 0, 0], plan, most=2), False)
        self.assertIs(is_plan(season=WIDE, wish=WISH, setting=ZERO, plan=plan, most=0), True)

    def test_rows_that_are_never_reached_do_not_count(self):
        bad = [((1, 1, 1, 1), (), 0), (ZERO, (0, 1), 2), (ZERO, (), 1), (ZERO, (0,), 0)]
        self.assertIs(is_plan(WIDE, WISH, ZERO, Plan([*ROWS, *bad]), most=1), True)
        self.assertIs(is_plan(WIDE, WISH, ZERO, Plan([*bad, *ROWS]), most=1), False)
        endless = [((0, 0, 0, 1), (0,), 3), (ZERO, (0, 3), 1)]
        self.assertIs(is_plan(WIDE, WISH, ZERO, Plan([*ROWS, *endless]), most=1), True)

    def test_set_sluices_may_not_be_tried(self):
        shut = Season(Valley(2, [(0, 1), (0, 1)]), sides=[(0, 1), (0,)])
        goal = Season(shut.valley, needs=[0, 1])
        self.assertIs(is_plan(shut, goal, (0, 0), Plan([((0, 0), (), 0)]), most=0), True)
        self.assertIs(is_plan(shut, goal, (0, 0), Plan([((0, 0), (), 1), ((0, 1), (), 0)]), most=0), False)

    def test_through_settings_that_do_not_run(self):
        season = Season(Valley(2, [(0, 1), (0, 1)]), needs=[1, 1])
        goal = Season.only(season.valley, (1, 0))
        around = Plan([((0, 1), (), 0), ((1, 1), (), 1)])
        self.assertIs(is_plan(season, goal, (0, 1), around, most=0), False)
        self.assertIs(is_plan(Season(season.valley), goal, (0, 1), around, most=0), True)

    def test_plans_that_never_end(self):
        free = Season(Valley(2, [(0, 1), (0, 1)]))
        self.assertIs(is_plan(free, free, (0, 0), LOOP, most=0), False)
        self.assertIs(is_plan(free, free, (0, 1), LOOP, most=2), True)

    def test_most_is_more_than_there_are_unset_sluices(self):
        far = Plan([((1,), (), 0)])
        one = Season(Valley(2, [(0, 1)]))
        goal = Season(one.valley, needs=[1, 0])
        self.assertIs(is_plan(one, goal, (1,), far, most=0), True)
        self.assertIs(is_plan(one, goal, (1,), far, most=10), False)
        self.assertIs(is_plan(one, one, (1,), far, most=10), True)

    def test_errors_and_their_order(self):
        other = Season(Valley.ring(4))
        for call in (lambda wish, setting: is_plan(WIDE, wish, setting, Plan(ROWS), most=1),
                     lambda wish, setting: find_plan(WIDE, wish, setting, most=1)):
            for setting in (ZERO, (0, 1, 1, 0)):
                with self.assertRaises(ValleysDiffer):
                    call(other, setting)
            with self.assertRaises(NotRunning) as caught:
                call(WISH, [0, 1, 1, 0])
            self.assertEqual(caught.exception.setting, (0, 1, 1, 0))


class FindPlanTest(unittest.TestCase):
    def test_ordinary(self):
        self.assertIs(is_plan(WIDE, WISH, ZERO, find_plan(WIDE, WISH, ZERO, most=1), most=1), True)
        self.assertIsNone(find_plan(WIDE, WISH, ZERO, most=2))
        self.assertEqual(find_plan(WIDE, WISH, ZERO, most=0), find_plan(WIDE, WISH, [0, 0, 0, 0], most=0))
        self.assertTrue(only_tuples(find_plan(WIDE, WISH, [0, 0, 0, 0], most=1).rows))

    def test_met_at_once(self):
        self.assertEqual(find_plan(WIDE, WISH, (0, 0, 0, 1), most=4), Plan([]))
        self.assertEqual(find_plan(Season(Valley(1)), Season(Valley(1)), (), most=10), Plan([]))
        self.assertIsNone(find_plan(Season(Valley(1)), Season(Valley(1), needs=[1]), (), most=0))

    def test_against_plain_search(self):
        rng = random.Random(1)
        found, verdicts = [], []
        for season in random_seasons(2, 70) + dense_seasons(3, 15, sluices=5) + dense_seasons(4, 8, sluices=6):
            plain = all_running(season)
            for setting in rng.sample(plain, min(2, len(plain))):
                for wish in random_wishes(rng, season, 2):
                    most = rng.choice((0, 1, 1, 2, 3, 10))
                    plan = find_plan(season, wish, setting, most=most)
                    met = all(any(runs(wish, after) for after in jammed_ball(season, setting, jam))
                              for jam in jams_up_to(season, most))
                    self.assertEqual(plan is not None, met)
                    found.append(met)
                    if plan is not None:
                        self.assertIs(is_plan(season, wish, setting, plan, most=most), True)
                        self.assertTrue(plain_is_plan(season, wish, setting, plan.rows, most))
                        for rows in self.mutants(rng, season, plan.rows):
                            verdicts.append(plain_is_plan(season, wish, setting, rows, most))
                            same_as(self, is_plan(season, wish, setting, Plan(rows), most=most), verdicts[-1])
        self.assertEqual((set(found), set(verdicts)), ({True, False}, {True, False}))

    def test_sluices_that_have_moved_are_not_jammed(self):
        # Mill 4 wants a sluice; three ways lead there from mill 0, which has one sluice to spare.
        valley = Valley(5, ((0, 1), (0, 2), (0, 3), (1, 4), (2, 4), (3, 4)))
        season = Season(valley, needs=(2, 1, 1, 1, 0))
        wish = Season(valley, needs=(0, 0, 0, 0, 1))
        start = (0, 0, 0, 0, 0, 0)
        for most in (0, 1, 2):
            plan = find_plan(season, wish, start, most=most)
            self.assertIs(is_plan(season, wish, start, plan, most=most), True)
            self.assertTrue(plain_is_plan(season, wish, start, plan.rows, most))
        for most in (3, 4, 10):
            self.assertIsNone(find_plan(season, wish, start, most=most))

    def test_rows_that_try_a_sluice_again_which_has_moved(self):
        valley = Valley(5, ((0, 1), (0, 2), (0, 3), (1, 4), (2, 4), (3, 4)))
        season = Season(valley, needs=(2, 1, 1, 1, 0))
        wish = Season(valley, needs=(0, 0, 0, 0, 1))
        one, two, three, four = (0,) * 6, (1, 0, 0, 0, 0, 0), (0, 1, 0, 0, 0, 0), (0, 0, 1, 0, 0, 0)
        rows = [(one, (), 0), (two, (), 3), (two, (3,), 0), (one, (0,), 1), (one, (3,), 1), (three, (0,), 4),
                (three, (3,), 4), (three, (0, 4), 1), (three, (3, 4), 1), (one, (0, 4), 2), (one, (3, 4), 2),
                (one, (0, 1), 2), (one, (1, 3), 2), (four, (0, 4), 5), (four, (3, 4), 5), (four, (0, 1), 5),
                (four, (1, 3), 5)]
        self.assertIs(is_plan(season, wish, one, Plan(rows), most=2), True)
        self.assertIs(is_plan(season, wish, one, Plan(rows), most=3), False)
        for index in range(len(rows)):
            self.assertIs(is_plan(season, wish, one, Plan(rows[:index] + rows[index + 1:]), most=2), False)

    def test_several_ways_against_plain_search(self):
        rng = random.Random(5)
        found = {most: set() for most in range(4)}
        for _ in range(150):
            season, wish, setting = self.several_ways(rng)
            for most in range(4):
                jams = jams_up_to(season, most)
                good = all(any(runs(wish, after) for after in jammed_ball(season, setting, jam)) for jam in jams)
                plan = find_plan(season, wish, setting, most=most)
                self.assertEqual(plan is not None, good)
                found[most].add(good)
                if good:
                    self.assertIs(is_plan(season, wish, setting, plan, most=most), True)
                    self.assertTrue(plain_is_plan(season, wish, setting, plan.rows, most))
        self.assertEqual(list(found.values()), [{True, False}] * 4)

    def several_ways(self, rng):
        """A season in which rows of sluices lead from mill 0 to mill 1, a wish for mill 1, and a setting."""
        pairs, mills = [], 2
        for length in rng.choice(((2, 2, 2), (2, 2, 2), (2, 2, 1), (2, 2, 3), (1, 1, 2, 2), (3, 2))):
            way = [0, *range(mills, mills + length - 1), 1]
            pairs += list(zip(way, way[1:]))
            mills += length - 1
        rng.shuffle(pairs)
        valley = Valley(mills, pairs)
        setting = tuple(1 if rng.random() < 0.1 else 0 for _ in pairs)
        base = counts(valley, setting)
        needs = [max(0, base[0] - rng.choice((1, 1, 1, 2))), 0]
        needs += [max(0, count - rng.choice((0, 0, 0, 0, 1))) for count in base[2:]]
        limits = [None if rng.random() < 0.9 else count + 1 for count in base]
        season = Season(valley, needs=needs, limits=limits)
        wanted = base[1] + (1 if rng.random() < 0.9 else 2)
        return season, Season(valley, needs=[0, wanted] + [0] * (mills - 2)), setting

    def mutants(self, rng, season, rows):
        """The rows in another order, with one row less, and with other sluices."""
        rows = list(rows)
        if rows:
            yield rng.sample(rows, len(rows))
            yield rows + rows
            at = rng.randrange(len(rows))
            yield rows[:at] + rows[at + 1:]
            for _ in range(2):
                sluice = rng.randrange(len(season.valley))
                yield rows[:at] + [(rows[at][0], rows[at][1], sluice)] + rows[at + 1:]

    def test_ten_sluices(self):
        season = Season(Valley(2, [(0, 1)] * 10))
        for need, most, good in ((5, 5, True), (6, 5, False), (1, 9, True)):
            wish = Season(season.valley, needs=[need, 0])
            plan = find_plan(season, wish, (1,) * 10, most=most)
            self.assertEqual(plan is not None, good)
            if good:
                self.assertIs(is_plan(season, wish, (1,) * 10, plan, most=most), True)


if __name__ == "__main__":
    unittest.main()
