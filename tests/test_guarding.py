"""Point 46: guards."""

import random
import unittest

from millsluices.guarding import guard_lets, guarded, guarded_reach, is_guard_table
from millsluices.habits import Habit
from millsluices.seasons import Season
from millsluices.valleys import Valley
from plain import (all_running, all_settings, as_lists, dense_seasons, flip, only_tuples, random_habit_moves,
                   random_seasons, runs, same_as)

RING = Valley.ring(3)
LOW = Season(RING, needs=[1, 1, 0])
ANY = Habit([(0, 0, 0), (0, 1, 0), (0, 2, 0)])
ZERO, UP, MID, ONE = (0, 0, 0), (0, 0, 1), (1, 0, 1), (1, 1, 1)


def plain_states(moves):
    return sorted({0} | {move[0] for move in moves} | {move[2] for move in moves})


def plain_guarded(season, moves, foes):
    """The greatest guard table with the states of the habit, by taking pairs away until it is one."""
    pairs = {(setting, state) for setting in all_running(season) for state in plain_states(moves)}
    while not plain_is_table(season, moves, foes, pairs):
        pairs = {pair for pair in pairs if plain_good(season, moves, foes, pairs, pair)}
    return pairs


def plain_good(season, moves, foes, pairs, pair):
    setting, state = pair
    return runs(season, setting) and all((flip(setting, sluice), after) in pairs for origin, sluice, after in moves
                                         if origin == state and sluice in foes)


def plain_is_table(season, moves, foes, table):
    pairs = {(tuple(setting), state) for setting, state in table}
    return all(plain_good(season, moves, foes, pairs, pair) for pair in pairs)


class GuardTest(unittest.TestCase):
    def test_ordinary(self):
        self.assertEqual(guarded(LOW, ANY, [0]), ((UP, 0), (MID, 0)))
        self.assertEqual(guarded_reach(LOW, ANY, [0], UP), ((UP, 0), (MID, 0)))
        self.assertEqual(guard_lets(LOW, ANY, [0], UP, 0), ())
        self.assertEqual(guard_lets(LOW, ANY, [2], ZERO, 0), ())
        self.assertEqual(guarded(season=LOW, habit=ANY, foes=()), tuple((row, 0) for row in all_running(LOW)))
        self.assertEqual(guard_lets(season=LOW, habit=ANY, foes=(), setting=[0, 0, 1], state=0), (0, 2))
        self.assertEqual(guarded_reach(season=LOW, habit=ANY, foes=[], setting=[1, 1, 1]), guarded(LOW, ANY, []))
        for found in (guarded(LOW, ANY, [0]), guard_lets(LOW, ANY, [], [0, 0, 1], 0),
                      guarded_reach(LOW, ANY, [], [0, 0, 1])):
            self.assertTrue(only_tuples(found))

    def test_guard_forbids_turns_of_the_miller(self):
        # After the turn of sluice 1 the foe could turn sluice 0 and stop mill 0.
        season = Season(Valley(2, [(0, 1)] * 3), needs=[1, 0])
        self.assertEqual(guard_lets(season, ANY, [0], ZERO, 0), (1, 2))
        self.assertEqual(guard_lets(season, ANY, [0], (0, 1, 0), 0), (1,))
        self.assertEqual(guard_lets(season, ANY, [0], (1, 1, 0), 0), (1,))
        self.assertEqual(guard_lets(season, ANY, [0], (0, 1, 1), 0), ())
        found = guarded_reach(season, ANY, [0], ZERO)
        self.assertEqual({setting[1:] for setting, _ in found}, {(0, 0), (0, 1), (1, 0)})

    def test_the_habit_protects(self):
        # The foe may turn sluice 0 only after sluice 2 was turned.
        habit = Habit([(0, 2, 1), (1, 0, 0)])
        self.assertEqual(guarded(LOW, habit, [0]), ((ZERO, 0), (UP, 0), (UP, 1), (MID, 0), (MID, 1), (ONE, 0)))
        self.assertEqual(guard_lets(LOW, habit, [0], ZERO, 0), (2,))
        self.assertEqual(guarded_reach(LOW, habit, [0], ZERO), ((ZERO, 0), (UP, 1), (MID, 0)))

    def test_no_moves(self):
        none = Habit([])
        self.assertEqual(guarded(LOW, none, [0, 1, 2]), tuple((row, 0) for row in all_running(LOW)))
        self.assertEqual(guard_lets(LOW, none, [0], ZERO, 0), ())
        self.assertEqual(guarded_reach(LOW, none, [0], ZERO), ((ZERO, 0),))

    def test_states(self):
        habit = Habit([(2, 0, 5)])
        self.assertEqual({state for _, state in guarded(LOW, habit, [])}, {0, 2, 5})
        self.assertEqual(guard_lets(LOW, habit, [], UP, 2), (0,))
        for state in (0, 5, 9):
            self.assertEqual(guard_lets(LOW, habit, [], UP, state), ())

    def test_all_sluices_are_the_foes(self):
        for foes in ([0, 1, 2], (2, 1, 0, 0)):
            self.assertEqual(guarded(LOW, ANY, foes), ())
            self.assertEqual(guarded_reach(LOW, ANY, foes, UP), ())
            self.assertEqual(guard_lets(LOW, ANY, foes, UP, 0), ())
            self.assertEqual(len(guarded(Season(RING), ANY, foes)), 8)

    def test_foes_may_be_set_sluices(self):
        season = Season(RING, sides=[(0,), (0, 1), (0, 1)])
        self.assertEqual(guarded(season, ANY, [0]), ())
        self.assertEqual(guarded(season, Habit([(0, 1, 0)]), [0, 1]),
                         tuple((row, 0) for row in all_running(season)))

    def test_nothing_is_raised_for_settings_that_do_not_run(self):
        bad = [0, 1, 1]
        self.assertEqual(guard_lets(LOW, ANY, [], bad, 0), ())
        self.assertEqual(guarded_reach(LOW, ANY, [], bad), ())
        self.assertIs(is_guard_table(LOW, ANY, [], [(bad, 0)]), False)
        nothing = Season(RING, needs=[2, 2, 2])
        self.assertEqual(guarded(nothing, ANY, []), ())
        self.assertEqual(guarded_reach(nothing, ANY, [], ZERO), ())

    def test_table(self):
        table = ((UP, 0), (MID, 0))
        self.assertIs(is_guard_table(LOW, ANY, [0], table), True)
        self.assertIs(is_guard_table(season=LOW, habit=ANY, foes=(0, 0), table=as_lists(table[::-1] + table)), True)
        self.assertIs(is_guard_table(LOW, ANY, [0], table[:1]), False)
        self.assertIs(is_guard_table(LOW, ANY, [0, 2], table), False)
        self.assertIs(is_guard_table(LOW, ANY, [], table[:1]), True)
        self.assertIs(is_guard_table(LOW, ANY, [0], [*table, (ZERO, 0)]), False)

    def test_tables_without_pairs_and_with_states_without_moves(self):
        self.assertIs(is_guard_table(LOW, ANY, [0, 1, 2], ()), True)
        self.assertIs(is_guard_table(Season(RING, needs=[2, 2, 2]), ANY, [0], []), True)
        for state in (3, -1, 10 ** 30):
            self.assertIs(is_guard_table(LOW, ANY, [0, 1, 2], [(ZERO, state)]), True)
            self.assertIs(is_guard_table(LOW, ANY, [0, 1, 2], [((0, 1, 1), state)]), False)

    def test_against_plain_search(self):
        rng = random.Random(1)
        sizes = set()
        for season in random_seasons(2, 130, tight=0.3) + dense_seasons(3, 30, mills=3, sluices=5):
            size = len(season.valley)
            moves = random_habit_moves(rng, size, many=7)
            habit = Habit(moves)
            foes = [sluice for sluice in range(size) if rng.random() < 0.4]
            plain = plain_guarded(season, moves, foes)
            self.assertEqual(guarded(season, habit, foes), tuple(sorted(plain)))
            self.assertIs(is_guard_table(season, habit, foes, tuple(plain)), True)
            for setting in rng.sample(all_settings(season.valley), min(4, 2 ** size)):
                for state in plain_states(moves):
                    lets = {sluice for origin, sluice, after in moves if origin == state and sluice not in foes
                            and (flip(setting, sluice), after) in plain} if (setting, state) in plain else set()
                    self.assertEqual(guard_lets(season, habit, foes, setting, state), tuple(sorted(lets)))
                found = {(setting, 0)} & plain
                while True:
                    more = {(flip(row, sluice), after) for row, state in found for origin, sluice, after in moves
                            if origin == state and (sluice in foes or (flip(row, sluice), after) in plain)} - found
                    if not more:
                        break
                    found |= more
                self.assertTrue(found <= plain)
                self.assertEqual(guarded_reach(season, habit, foes, setting), tuple(sorted(found)))
                sizes.add(min(len(found), 3))
        self.assertEqual(sizes, {0, 1, 2, 3})

    def test_changed_tables_against_the_definition(self):
        rng = random.Random(4)
        verdicts = []
        for season in random_seasons(5, 150, tight=0.3):
            size = len(season.valley)
            moves = random_habit_moves(rng, size)
            foes = [sluice for sluice in range(size) if rng.random() < 0.4]
            table = sorted(plain_guarded(season, moves, foes))
            for _ in range(4):
                changed = [row for row in table if rng.random() < 0.9]
                if rng.random() < 0.3:
                    changed.append((rng.choice(all_settings(season.valley)), rng.randrange(4)))
                rng.shuffle(changed)
                verdicts.append(plain_is_table(season, moves, foes, changed))
                same_as(self, is_guard_table(season, Habit(moves), foes, changed), verdicts[-1])
        self.assertEqual(set(verdicts), {True, False})

    def test_ten_sluices(self):
        season = Season(Valley(2, [(0, 1)] * 10), needs=[2, 0])
        habit = Habit([(state, sluice, (state + 1) % 4) for state in range(4) for sluice in range(10)])
        found = guarded(season, habit, [0, 1])
        self.assertEqual(len(found), 4 * 4 * (2 ** 8 - 9))
        self.assertEqual(len(guarded_reach(season, habit, [0, 1], (0,) * 10)), 2 * 4 * (2 ** 8 - 9))


if __name__ == "__main__":
    unittest.main()
