"""Point 45: whether a habit does harm."""

import random
import unittest

from millsluices.errors import NotRunning, SluiceError
from millsluices.habits import Habit
from millsluices.harms import harm, is_harmless_table, reached_pairs
from millsluices.seasons import Season
from millsluices.valleys import Valley
from plain import (all_running, all_settings, as_lists, dense_seasons, flip, flips, let_rows, only_tuples,
                   random_habit_moves, random_seasons, runs, same_as, walkable)

RING = Valley.ring(3)
LOW = Season(RING, needs=[1, 1, 0])
BAD = Habit([(0, 2, 1), (1, 0, 0)])
GOOD = Habit([(0, 2, 1), (1, 2, 0)])
ZERO, UP = (0, 0, 0), (0, 0, 1)
TABLE = ((ZERO, 0), (UP, 1))


def plain_is_table(season, setting, moves, table):
    pairs = {(tuple(row), state) for row, state in table}
    return (setting, 0) in pairs and all(
        runs(season, row) and all((flip(row, sluice), after) in pairs for origin, sluice, after in moves
                                  if origin == state) for row, state in pairs)


class HarmTest(unittest.TestCase):
    def test_ordinary(self):
        self.assertEqual(harm(LOW, ZERO, BAD), (2, 0, 2))
        self.assertEqual(harm(season=LOW, setting=[0, 0, 0], habit=Habit([(0, 0, 0)])), (0,))
        self.assertIsNone(harm(LOW, ZERO, GOOD))
        self.assertTrue(only_tuples(harm(LOW, [0, 0, 0], BAD)))

    def test_setting_does_not_run(self):
        for habit in (BAD, GOOD, Habit([])):
            self.assertEqual(harm(LOW, [0, 1, 1], habit), ())
            self.assertEqual(harm(Season(RING, needs=[2, 2, 2]), ZERO, habit), ())

    def test_habit_without_moves(self):
        self.assertIsNone(harm(LOW, ZERO, Habit([])))
        self.assertEqual(reached_pairs(LOW, ZERO, Habit([])), ((ZERO, 0),))
        self.assertIsNone(harm(Season(Valley(1)), (), Habit(())))

    def test_states_without_moves(self):
        once = Habit([(0, 2, 9)])
        self.assertIsNone(harm(LOW, ZERO, once))
        self.assertEqual(reached_pairs(LOW, ZERO, once), ((ZERO, 0), (UP, 9)))
        self.assertIsNone(harm(LOW, ZERO, Habit([(1, 0, 1), (5, 1, 0)])))

    def test_first_of_the_shortest(self):
        season = Season(RING, limits=[1, 1, 1])
        habit = Habit([(0, 1, 1), (0, 2, 2), (1, 1, 0), (2, 2, 0), (0, 0, 0)])
        self.assertEqual(harm(season, ZERO, habit), (0,))
        free = Season(Valley(2, [(0, 1)] * 3), needs=[1, 0])
        self.assertEqual(harm(free, ZERO, Habit([(0, sluice, 0) for sluice in (2, 1, 0)])), (0, 1, 2))
        self.assertEqual(harm(free, ZERO, Habit([(0, 2, 1), (0, 1, 1), (1, 0, 2), (2, 2, 0), (2, 1, 0)])), (1, 0, 2))

    def test_set_sluices_and_long_harm(self):
        self.assertEqual(harm(Season(RING, sides=[(0,), (0, 1), (0, 1)]), ZERO, Habit([(0, 1, 1), (1, 0, 0)])), (1, 0))
        wait = Habit([(state, 2, (state + 1)) for state in range(9)] + [(9, 1, 0)])
        self.assertEqual(harm(Season(RING, needs=[0, 1, 0]), UP, wait), (2,) * 9 + (1,))
        self.assertIsNone(harm(Season(RING), UP, wait))

    def test_table(self):
        self.assertIs(is_harmless_table(LOW, ZERO, GOOD, TABLE), True)
        self.assertIs(is_harmless_table(season=LOW, setting=[0, 0, 0], habit=GOOD, table=as_lists(TABLE)), True)
        self.assertIs(is_harmless_table(LOW, ZERO, BAD, reached_pairs(LOW, ZERO, BAD)), False)
        self.assertIs(is_harmless_table(LOW, ZERO, GOOD, TABLE[:1]), False)
        self.assertIs(is_harmless_table(LOW, ZERO, GOOD, TABLE[1:]), False)
        self.assertIs(is_harmless_table(LOW, UP, GOOD, TABLE), False)

    def test_tables_without_rows_and_with_rows_exchanged_or_repeated(self):
        self.assertIs(is_harmless_table(LOW, ZERO, GOOD, ()), False)
        self.assertIs(is_harmless_table(LOW, ZERO, Habit([]), [(ZERO, 0)]), True)
        self.assertIs(is_harmless_table(LOW, ZERO, GOOD, TABLE[::-1] + TABLE), True)

    def test_tables_with_settings_that_do_not_run(self):
        self.assertIs(is_harmless_table(LOW, (0, 1, 1), Habit([]), [((0, 1, 1), 0)]), False)
        self.assertIs(is_harmless_table(LOW, ZERO, Habit([]), [(ZERO, 0), ((0, 1, 1), 5)]), False)

    def test_tables_with_states_without_moves(self):
        for state in (7, -1, 10 ** 30):
            self.assertIs(is_harmless_table(LOW, ZERO, GOOD, [*TABLE, (ZERO, state)]), True)
        self.assertIs(is_harmless_table(LOW, ZERO, GOOD, [*TABLE, (ZERO, 1)]), False)

    def test_reached_pairs(self):
        self.assertEqual(reached_pairs(LOW, ZERO, BAD), ((ZERO, 0), (UP, 1), ((1, 0, 1), 0)))
        self.assertEqual(reached_pairs(season=LOW, setting=[0, 0, 0], habit=GOOD), TABLE)
        self.assertTrue(only_tuples(reached_pairs(LOW, [0, 0, 0], BAD)))
        with self.assertRaises(NotRunning) as caught:
            reached_pairs(LOW, [0, 1, 1], BAD)
        self.assertEqual(caught.exception.setting, (0, 1, 1))
        self.assertIsInstance(caught.exception, SluiceError)

    def test_against_plain_search(self):
        rng = random.Random(1)
        lengths = set()
        for season in random_seasons(2, 130, tight=0.2) + dense_seasons(3, 30, mills=3, sluices=4):
            size = len(season.valley)
            for setting in rng.sample(all_settings(season.valley), min(2, 2 ** size)):
                moves = random_habit_moves(rng, size, many=5)
                habit = Habit(moves)
                rows = let_rows(moves, 6)
                bad = [row for row, _ in rows if not walkable(season, setting, row)]
                answer = harm(season, setting, habit)
                if bad:
                    self.assertEqual(answer, min(bad, key=lambda row: (len(row), row)))
                else:
                    self.assertTrue(answer is None or len(answer) > 6)
                lengths.add(answer if answer is None else len(answer))
                if runs(season, setting):
                    pairs = reached_pairs(season, setting, habit)
                    self.assertEqual(pairs, tuple(sorted(set(pairs))))
                    plain = {(flips(setting, row), state) for row, state in rows if walkable(season, setting, row)}
                    self.assertTrue(plain <= set(pairs))
                    if answer is None:
                        self.assertIs(is_harmless_table(season, setting, habit, pairs), True)
                    else:
                        self.assertIs(is_harmless_table(season, setting, habit, pairs), False)
        self.assertTrue({None, 0, 1, 2, 3} <= lengths)

    def test_reached_pairs_against_plain_search(self):
        rng = random.Random(4)
        for season in random_seasons(5, 100, tight=0.2):
            plain = all_running(season)
            for setting in rng.sample(plain, min(2, len(plain))):
                moves = random_habit_moves(rng, len(season.valley), many=8)
                found = {(setting, 0)}
                while True:
                    more = {(flip(row, sluice), after) for row, state in found for origin, sluice, after in moves
                            if origin == state and runs(season, flip(row, sluice))} - found
                    if not more:
                        break
                    found |= more
                self.assertEqual(reached_pairs(season, setting, Habit(moves)), tuple(sorted(found)))

    def test_changed_tables_against_the_definition(self):
        rng = random.Random(6)
        verdicts = []
        for season in random_seasons(7, 150, tight=0.2):
            for setting in all_running(season)[:2]:
                moves = random_habit_moves(rng, len(season.valley))
                table = list(reached_pairs(season, setting, Habit(moves)))
                for _ in range(4):
                    changed = [row for row in table if rng.random() < 0.95]
                    if rng.random() < 0.3:
                        changed.append((rng.choice(all_settings(season.valley)), rng.randrange(4)))
                    rng.shuffle(changed)
                    verdicts.append(plain_is_table(season, setting, moves, changed))
                    same_as(self, is_harmless_table(season, setting, Habit(moves), changed), verdicts[-1])
        self.assertEqual(set(verdicts), {True, False})

    def test_ten_sluices(self):
        season = Season(Valley(2, [(0, 1)] * 10), needs=[1, 0])
        habit = Habit([(state, sluice, (state + 1) % 4) for state in range(4) for sluice in range(10)])
        self.assertEqual(harm(season, (0,) * 10, habit), tuple(range(10)))
        self.assertEqual(len(reached_pairs(season, (0,) * 10, habit)), 2046)


if __name__ == "__main__":
    unittest.main()
