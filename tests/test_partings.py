"""Point 47: walks by which two habits part."""

import random
import unittest

from millsluices.errors import NotRunning, SluiceError
from millsluices.habits import Habit
from millsluices.partings import parting_row
from millsluices.seasons import Season
from millsluices.valleys import Valley
from plain import all_running, dense_seasons, let_rows, only_tuples, random_habit_moves, random_seasons, walkable

RING = Valley.ring(3)
LOW = Season(RING, needs=[1, 1, 0])
ZERO, UP = (0, 0, 0), (0, 0, 1)


class PartingTest(unittest.TestCase):
    def test_ordinary(self):
        one, two = Habit([(0, 2, 1), (1, 0, 0)]), Habit([(0, 2, 1), (1, 2, 0)])
        self.assertEqual(parting_row(LOW, ZERO, one, two), (2, 0))
        self.assertEqual(parting_row(season=LOW, setting=[0, 0, 0], one=two, two=one), (2, 0))
        self.assertEqual(parting_row(LOW, ZERO, one, Habit([])), (2,))
        self.assertTrue(only_tuples(parting_row(LOW, [0, 0, 0], one, two)))

    def test_habits_that_let_the_same_walks(self):
        one = Habit([(0, 2, 1), (1, 2, 0)])
        self.assertIsNone(parting_row(LOW, ZERO, one, one))
        self.assertIsNone(parting_row(LOW, ZERO, one, Habit([(0, 2, 0)])))
        # Sluice 0 and sluice 1 cannot be turned at the beginning, so it does not matter who lets it.
        self.assertIsNone(parting_row(LOW, ZERO, Habit([(0, 0, 0), (0, 1, 2)]), Habit([])))
        self.assertIsNone(parting_row(LOW, ZERO, Habit([]), Habit([])))
        self.assertIsNone(parting_row(LOW, ZERO, one, Habit([(0, 2, 1), (1, 2, 0), (5, 1, 0)])))

    def test_habits_that_part_late(self):
        one = Habit([(state, 2, state + 1) for state in range(9)])
        two = Habit([(0, 2, 0)])
        self.assertEqual(parting_row(LOW, ZERO, one, two), (2,) * 10)

    def test_first_of_the_shortest(self):
        free = Season(RING)
        moves = [(0, 2, 0), (0, 1, 1), (0, 0, 1)]
        one, two = Habit(moves), Habit([*moves, (1, 1, 0), (1, 2, 0)])
        self.assertEqual(parting_row(free, ZERO, one, two), (0, 1))
        self.assertEqual(parting_row(free, ZERO, Habit([(0, 2, 0)]), Habit([(0, 1, 0)])), (1,))

    def test_not_running(self):
        for habit in (Habit([]), Habit([(0, 0, 0)])):
            with self.assertRaises(NotRunning) as caught:
                parting_row(LOW, [0, 1, 1], habit, Habit([]))
            self.assertEqual(caught.exception.setting, (0, 1, 1))
            self.assertIsInstance(caught.exception, SluiceError)

    def test_against_plain_search(self):
        rng = random.Random(1)
        lengths = set()
        for season in random_seasons(2, 150, tight=0.2) + dense_seasons(3, 30, mills=3, sluices=4):
            plain = all_running(season)
            size = len(season.valley)
            for setting in rng.sample(plain, min(2, len(plain))):
                moves = random_habit_moves(rng, size, many=5)
                others = random_habit_moves(rng, size, many=5) if rng.random() < 0.5 else moves[:3]
                rows = [{row for row, _ in let_rows(some, 6) if walkable(season, setting, row)}
                        for some in (moves, others)]
                apart = rows[0] ^ rows[1]
                answer = parting_row(season, setting, Habit(moves), Habit(others))
                if apart:
                    self.assertEqual(answer, min(apart, key=lambda row: (len(row), row)))
                else:
                    self.assertTrue(answer is None or len(answer) > 6)
                lengths.add(answer if answer is None else len(answer))
        self.assertTrue({None, 1, 2, 3} <= lengths)

    def test_ten_sluices(self):
        season = Season(Valley(2, [(0, 1)] * 10))
        moves = [(state, sluice, (state + 1) % 3) for state in range(3) for sluice in range(10)]
        one, two = Habit(moves), Habit([(0, sluice, 0) for sluice in range(10)])
        self.assertIsNone(parting_row(season, (0,) * 10, one, two))
        self.assertEqual(parting_row(season, (0,) * 10, Habit(moves[1:]), two), (0,))
        self.assertEqual(parting_row(season, (0,) * 10, Habit(moves[:-1]), two), (0, 0, 9))


if __name__ == "__main__":
    unittest.main()
