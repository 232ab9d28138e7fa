"""Point 68: groping plans."""

import functools
import random
import unittest

from millsluices.errors import EndlessPlan, NotRunning, SluiceError
from millsluices.groping import fewest_tries, follow_groping, groping_plan, is_groping_plan, remaining
from millsluices.seasons import Season
from millsluices.telling import alike_groups
from millsluices.valleys import Valley
from plain import (all_running, all_settings, dense_seasons, only_tuples, plain_try, random_seasons, same_as,
                   told_apart)

RING = Valley.ring(3)
LOW = Season(RING, needs=[1, 1, 0])
FULL = Season(RING, needs=[1, 1, 1])
ZERO, UP, ONE = (0, 0, 0), (0, 0, 1), (1, 1, 1)
THREE = (ZERO, UP, ONE)
PLAN = ((THREE, 0), ((ZERO, ONE), 1))


def plain_after(season, candidates, sluice, heard):
    tries = [plain_try(season, setting, sluice) for setting in candidates]
    return tuple(sorted({after for after, answer in tries if answer == heard}))


def plain_fewest(season, candidates):
    """The least number of tries, by going through all plans that make at most so many."""
    apart = told_apart(season, all_running(season))

    @functools.lru_cache(None)
    def can(present, number):
        if not any((one, two) in apart for one in present for two in present):
            return True
        return number > 0 and any(
            all(can(after, number - 1) for after in (plain_after(season, present, sluice, True),
                                                     plain_after(season, present, sluice, False)))
            for sluice in range(len(season.valley)))

    number = 0
    while not can(tuple(sorted(set(candidates))), number):
        number += 1
    return number


def plain_follow(season, plan, candidates, setting):
    """The tries and the candidates at the end, or None if the plan goes on for too long."""
    present, tries = tuple(sorted(set(candidates))), []
    for _ in range(400):
        rows = [sluice for row, sluice in plan if tuple(tuple(other) for other in row) == present]
        if not rows:
            return tuple(tries), present
        after, answer = plain_try(season, setting, rows[0])
        present = plain_after(season, present, rows[0], answer)
        setting = after
        tries.append((rows[0], answer))
    return None


def plain_finds_out(season, candidates, plan):
    apart = told_apart(season, all_running(season))
    ends = [plain_follow(season, plan, candidates, setting) for setting in candidates]
    return all(end is not None and not any((one, two) in apart for one in end[1] for two in end[1]) for end in ends)


class RemainingTest(unittest.TestCase):
    def test_ordinary(self):
        self.assertEqual(remaining(LOW, [ZERO, UP, ONE], [0], [False]), (ZERO, ONE))
        self.assertEqual(remaining(season=LOW, candidates=THREE, tries=(0,), answers=(True,)), ((1, 0, 1),))
        self.assertEqual(remaining(LOW, [[1, 1, 1], [0, 0, 0]], [], []), (ZERO, ONE))
        self.assertEqual(remaining(LOW, THREE, [0, 1], [False, False]), (ZERO,))
        self.assertTrue(only_tuples(remaining(LOW, [[1, 1, 1], [0, 0, 0]], [1], [False])))

    def test_none_remains(self):
        self.assertEqual(remaining(LOW, [ZERO], [0], [True]), ())
        self.assertEqual(remaining(LOW, [ZERO], [0, 2, 2], [True, True, True]), ())

    def test_any_order_and_repeated(self):
        self.assertEqual(remaining(LOW, [ONE, ZERO, ONE, UP, ZERO], [0], [False]), (ZERO, ONE))

    def test_candidates_stand_in_order_after_tries(self):
        free = Season(RING)
        self.assertEqual(remaining(free, [ZERO, (1, 0, 0)], [0], [True]), (ZERO, (1, 0, 0)))
        self.assertEqual(remaining(free, [ZERO, (1, 1, 0)], [0, 0, 0], [True] * 3), ((0, 1, 0), (1, 0, 0)))

    def test_against_the_definition(self):
        rng = random.Random(1)
        for season in random_seasons(2, 150, tight=0.2):
            plain, size = all_running(season), len(season.valley)
            if plain and size:
                candidates = rng.choices(plain, k=rng.randint(1, 6))
                hidden, present = rng.choice(candidates), tuple(sorted(set(candidates)))
                tries, answers = [rng.randrange(size) for _ in range(rng.randint(0, 4))], []
                for sluice in tries:
                    hidden, answer = plain_try(season, hidden, sluice)
                    answers.append(answer if rng.random() < 0.9 else not answer)
                    present = plain_after(season, present, sluice, answers[-1])
                self.assertEqual(remaining(season, candidates, tries, answers), present)


class FollowTest(unittest.TestCase):
    def test_ordinary(self):
        self.assertEqual(follow_groping(LOW, PLAN, THREE, ONE), (((0, False), (1, True)), ((1, 0, 1),)))
        self.assertEqual(follow_groping(LOW, PLAN, THREE, [0, 0, 1]), (((0, True),), ((1, 0, 1),)))
        found = follow_groping(season=LOW, plan=[[[[0, 0, 0], [0, 0, 1], [1, 1, 1]], 0]],
                               candidates=[[1, 1, 1], [0, 0, 0], [0, 0, 1]], setting=[0, 0, 0])
        self.assertEqual(found, (((0, False),), (ZERO, ONE)))
        self.assertTrue(only_tuples(found))

    def test_without_rows(self):
        self.assertEqual(follow_groping(LOW, (), [ONE, ZERO, ONE], ZERO), ((), (ZERO, ONE)))

    def test_the_first_row_counts(self):
        plan = [(THREE, 2), (THREE, 0), (THREE, 2)]
        self.assertEqual(follow_groping(LOW, plan, THREE, ONE)[0], ((2, False),))

    def test_plans_that_never_end(self):
        for plan in ([((ZERO, UP), 2)], [((ZERO,), 0)], [((ZERO,), 2), ((UP,), 2)]):
            with self.assertRaises(EndlessPlan) as caught:
                follow_groping(LOW, plan, plan[0][0], ZERO)
            self.assertIsInstance(caught.exception, SluiceError)
            self.assertIs(is_groping_plan(LOW, plan[0][0], plan), False)
        self.assertEqual(follow_groping(LOW, [((ZERO, UP), 0)], [ZERO, UP], UP), (((0, True),), ((1, 0, 1),)))
        lone = [((ZERO, UP), 0), ((ZERO,), 0)]
        self.assertEqual(follow_groping(LOW, lone, [ZERO, UP], UP), (((0, True),), ((1, 0, 1),)))
        with self.assertRaises(EndlessPlan):
            follow_groping(LOW, lone, [ZERO, UP], ZERO)
        self.assertIs(is_groping_plan(LOW, [ZERO, UP], lone), False)


class IsPlanTest(unittest.TestCase):
    def test_ordinary(self):
        self.assertIs(is_groping_plan(LOW, THREE, PLAN), True)
        self.assertIs(is_groping_plan(LOW, [ONE, ZERO, UP, ONE], [list(row) for row in PLAN]), True)
        self.assertIs(is_groping_plan(season=LOW, candidates=THREE, plan=PLAN[:1]), False)
        self.assertIs(is_groping_plan(LOW, THREE, ()), False)
        self.assertIs(is_groping_plan(LOW, [ZERO], ()), True)

    def test_settings_that_are_alike(self):
        self.assertIs(is_groping_plan(FULL, [ZERO, ONE], ()), True)
        self.assertEqual((fewest_tries(FULL, [ONE, ZERO]), groping_plan(FULL, [ONE, ZERO])), (0, ()))

    def test_rows_that_are_never_reached_and_rows_that_come_twice(self):
        loop = [((UP,), 2), ((ZERO, UP), 2)]
        self.assertIs(is_groping_plan(LOW, THREE, [*PLAN, *PLAN, *loop]), True)
        self.assertIs(is_groping_plan(LOW, THREE, [(THREE, 2), *PLAN]), False)
        self.assertIs(is_groping_plan(LOW, THREE, [*PLAN, (THREE, 2)]), True)


class FindTest(unittest.TestCase):
    def check(self, season, candidates, number):
        self.assertEqual(fewest_tries(season, candidates), number)
        plan = groping_plan(season, candidates)
        self.assertTrue(only_tuples(plan))
        self.assertIs(is_groping_plan(season, candidates, plan), True)
        self.assertTrue(plain_finds_out(season, candidates, plan))
        tries = [len(follow_groping(season, plan, candidates, setting)[0]) for setting in candidates]
        self.assertEqual(max(tries), number)

    def test_ordinary(self):
        self.check(LOW, THREE, 2)
        self.check(LOW, [ZERO], 0)
        self.check(LOW, [ONE, ONE], 0)
        self.check(LOW, all_running(LOW), 2)
        self.assertEqual(fewest_tries(season=LOW, candidates=[[0, 0, 0], [1, 1, 1]]), 1)
        self.assertEqual(groping_plan(season=LOW, candidates=[ONE, ZERO]),
                         groping_plan(LOW, [[0, 0, 0], [1, 1, 1], [0, 0, 0]]))

    def test_errors(self):
        calls = (lambda candidates: remaining(LOW, candidates, [], []),
                 lambda candidates: follow_groping(LOW, (), candidates, candidates[0]),
                 lambda candidates: is_groping_plan(LOW, candidates, ()),
                 lambda candidates: fewest_tries(LOW, candidates), lambda candidates: groping_plan(LOW, candidates))
        for call in calls:
            with self.assertRaises(NotRunning) as caught:
                call([ZERO, [1, 1, 0], [0, 1, 1], [1, 1, 0]])
            self.assertEqual(caught.exception.setting, (1, 1, 0))
            self.assertIsInstance(caught.exception, SluiceError)

    def test_against_plain_search(self):
        rng = random.Random(1)
        numbers = set()
        for season in random_seasons(2, 90, tight=0.2) + dense_seasons(3, 40, mills=3, sluices=4):
            plain = all_running(season)
            if plain:
                candidates = rng.choices(plain, k=rng.randint(1, 6))
                number = plain_fewest(season, candidates)
                numbers.add(number)
                self.check(season, candidates, number)
        self.assertTrue({0, 1, 2, 3, 4} <= numbers, numbers)

    def test_changed_plans_against_the_definition(self):
        rng = random.Random(4)
        answers = []
        for season in random_seasons(5, 120, tight=0.2) + dense_seasons(6, 40, mills=3, sluices=4):
            plain, size = all_running(season), len(season.valley)
            if not plain or not size:
                continue
            candidates = rng.choices(plain, k=rng.randint(1, 5))
            for _ in range(3):
                plan = [[row, sluice if rng.random() < 0.85 else rng.randrange(size)]
                        for row, sluice in groping_plan(season, candidates) if rng.random() < 0.95]
                if rng.random() < 0.3:
                    plan.append((tuple(sorted(set(rng.choices(plain, k=2)))), rng.randrange(size)))
                rng.shuffle(plan)
                answers.append(plain_finds_out(season, candidates, plan))
                same_as(self, is_groping_plan(season, candidates, plan), answers[-1])
                for setting in candidates:
                    found = plain_follow(season, plan, candidates, setting)
                    if found is None:
                        with self.assertRaises(EndlessPlan):
                            follow_groping(season, plan, candidates, setting)
                    else:
                        self.assertEqual(follow_groping(season, plan, candidates, setting), found)
        self.assertEqual(set(answers), {True, False})

    def test_ten_sluices(self):
        season = Season(Valley(2, [(0, 1)] * 10), needs=[1, 0])
        rng = random.Random(7)
        for _ in range(3):
            candidates = rng.sample(all_settings(season.valley)[:-1], 6)
            plan = groping_plan(season, candidates)
            self.assertIs(is_groping_plan(season, candidates, plan), True)
            tries = [len(follow_groping(season, plan, candidates, setting)[0]) for setting in candidates]
            self.assertEqual(max(tries), fewest_tries(season, candidates))
        self.assertEqual(len(alike_groups(season)), 1023)


if __name__ == "__main__":
    unittest.main()
