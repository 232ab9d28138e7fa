"""Point 44: habits."""

import itertools
import random
import unittest

from millsluices.errors import BadMove, SluiceError
from millsluices.habits import Habit
from plain import let_rows, only_tuples, random_habit_moves

MOVES = ((0, 2, 1), (1, 0, 0))


class HabitTest(unittest.TestCase):
    def test_moves_are_ascending_and_each_once(self):
        habit = Habit([[1, 0, 0], (0, 2, 1), (1, 0, 0), [0, 2, 1], (0, 11, 3)])
        self.assertEqual(habit.moves, ((0, 2, 1), (0, 11, 3), (1, 0, 0)))
        self.assertTrue(only_tuples(habit.moves))
        self.assertEqual(Habit(moves=()).moves, ())

    def test_later_changes_of_arguments_have_no_effect(self):
        moves = [[0, 2, 1], [1, 0, 0]]
        habit = Habit(moves)
        self.assertEqual(moves, [[0, 2, 1], [1, 0, 0]])
        moves[0][2] = 5
        moves.append([3, 3, 3])
        self.assertEqual((habit.moves, habit.after(0, 2), habit.after(3, 3)), (MOVES, 1, None))

    def test_equality(self):
        self.assertTrue(Habit(MOVES) == Habit([*MOVES[::-1], MOVES[0]]))
        self.assertFalse(Habit(MOVES) != Habit(MOVES[::-1]))
        self.assertTrue(Habit(MOVES) != Habit(MOVES[:1]))
        self.assertTrue(Habit(MOVES) != Habit([(0, 2, 2), (1, 0, 0)]))
        self.assertTrue(Habit([]) == Habit(()))
        for value in (MOVES, list(MOVES), None, 0):
            self.assertFalse(Habit(MOVES) == value)
            self.assertTrue(Habit(MOVES) != value)

    def test_after(self):
        habit = Habit(MOVES)
        self.assertEqual((habit.after(0, 2), habit.after(1, 0)), (1, 0))
        self.assertIs(habit.after(0, 0), None)
        self.assertIsNone(habit.after(state=7, sluice=2))
        self.assertIsNone(Habit([]).after(0, 0))

    def test_state_after(self):
        habit = Habit(MOVES)
        self.assertEqual([habit.state_after(turns) for turns in ((), [2], (2, 0), [2, 0, 2])], [0, 1, 0, 1])
        for turns in ([0], (2, 2), [2, 0, 0], (2, 0, 2, 1, 0), [2, 2, 0]):
            self.assertIsNone(habit.state_after(turns=turns))
        self.assertEqual((Habit([]).state_after([]), Habit([]).state_after([0])), (0, None))
        self.assertEqual(Habit([(0, 47, 9), (9, 47, 0)]).state_after([47] * 101), 9)

    def test_moves_that_contradict_each_other(self):
        for moves, index in (([(0, 1, 0), (0, 1, 1)], 1), ([(0, 1, 0), (0, 1, 0), [0, 1, 2], (0, 1, 3)], 2),
                             ([(3, 1, 0), (0, 1, 1), (3, 1, 0), (2, 2, 2), (0, 1, 0), (3, 1, 9)], 4)):
            with self.assertRaises(BadMove) as caught:
                Habit(moves)
            self.assertEqual(caught.exception.index, index)
            self.assertIsInstance(caught.exception, SluiceError)

    def test_same_sluice_in_other_states_and_other_sluices_in_the_same_state(self):
        self.assertEqual(len(Habit([(0, 1, 0), (1, 1, 1), (0, 2, 1), (1, 2, 0)]).moves), 4)

    def test_forty_moves(self):
        moves = [(state, sluice, (state + sluice) % 10) for state in range(10) for sluice in range(4)]
        self.assertEqual(Habit(moves[::-1]).moves, tuple(moves))

    def test_against_plain_rows(self):
        rng = random.Random(1)
        for _ in range(40):
            moves = random_habit_moves(rng, 3)
            habit = Habit(moves)
            states = dict(let_rows(moves, 4))
            for size in range(5):
                for turns in itertools.product(range(3), repeat=size):
                    self.assertEqual(habit.state_after(turns), states.get(turns))


if __name__ == "__main__":
    unittest.main()
