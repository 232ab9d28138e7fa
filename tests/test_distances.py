"""Points 25, 28 and 29: distances."""

import random
import unittest

from millsluices.distances import distance, distances, farthest, is_distance_table, within
from millsluices.errors import NotRunning
from millsluices.seasons import Season
from millsluices.valleys import Valley
from plain import (all_running, all_settings, as_lists, dense_seasons, flip, only_tuples, random_seasons, reach, runs)

RING = Valley.ring(3)
LOW = Season(RING, needs=[1, 1, 0])
FULL = Season(RING, needs=[1, 1, 1])
TABLE = (((0, 0, 0), 0), ((0, 0, 1), 1), ((1, 0, 1), 2), ((1, 1, 1), 3))


def plain_table(season, goal, table, prices):
    """The three properties of point 28, word for word."""
    rows = {(tuple(setting), number) for setting, number in table}
    if (goal, 0) not in rows or len({setting for setting, _ in rows}) != len(rows):
        return False
    numbers = dict(rows)
    for setting, number in rows:
        if not runs(season, setting):
            return False
        after = [(flip(setting, at), price) for at, price in enumerate(prices)]
        if any(runs(season, other) and not (other in numbers and numbers[other] <= number + price)
               for other, price in after):
            return False
        if setting != goal and not any(numbers.get(other) == number - price for other, price in after):
            return False
    return True


class DistanceTest(unittest.TestCase):
    def test_ordinary(self):
        self.assertEqual(distance(LOW, (0, 0, 0), (1, 1, 1)), 3)
        self.assertEqual(distance(LOW, [0, 0, 0], [1, 1, 1], prices=[1, 1, 5]), 7)
        self.assertEqual(distance(season=LOW, one=(0, 0, 0), two=(0, 0, 1), prices=(99, 99, 98)), 98)
        self.assertIsNone(distance(FULL, (0, 0, 0), (1, 1, 1)))

    def test_equal_settings(self):
        self.assertEqual(distance(FULL, (0, 0, 0), (0, 0, 0)), 0)
        self.assertEqual(distance(Season(Valley(1)), (), (), prices=()), 0)

    def test_not_running(self):
        bad, good = [0, 1, 1], (0, 0, 0)
        for one, two in ((bad, good), (good, bad), (bad, [0, 1, 0]), (bad, bad)):
            with self.assertRaises(NotRunning) as caught:
                distance(LOW if two != [0, 1, 0] else FULL, one, two)
            self.assertEqual(caught.exception.setting, (0, 1, 1))
        with self.assertRaises(NotRunning):
            distance(Season(RING, needs=[2, 2, 0]), good, good)

    def test_against_plain_search(self):
        rng = random.Random(131)
        for season in random_seasons(132, 120) + dense_seasons(133, 20):
            plain = all_running(season)
            prices = [rng.randint(1, 99) for _ in season.valley]
            for one in plain[:3]:
                turns, costs = reach(season, one), reach(season, one, prices)
                for two in plain:
                    self.assertEqual(distance(season, one, two), turns.get(two))
                    self.assertEqual(distance(season, one, two, prices=prices), costs.get(two))


class TableTest(unittest.TestCase):
    def test_distances(self):
        self.assertEqual(distances(LOW, [0, 0, 0]), TABLE)
        self.assertEqual(distances(season=FULL, goal=(1, 1, 1), prices=None), (((1, 1, 1), 0),))
        self.assertTrue(only_tuples(distances(LOW, [0, 0, 0], prices=[3, 2, 1])))
        self.assertEqual(distances(Season(Valley(1)), ()), (((), 0),))

    def test_against_plain_search(self):
        rng = random.Random(134)
        for season in random_seasons(135, 120) + dense_seasons(136, 20):
            prices = [rng.randint(1, 9) for _ in season.valley]
            for goal in all_running(season)[:3]:
                table = distances(season, goal, prices=prices)
                self.assertEqual(table, tuple(sorted(reach(season, goal, prices).items())))
                self.assertIs(is_distance_table(season, goal, table, prices=prices), True)

    def test_rows_exchanged_or_repeated(self):
        self.assertIs(is_distance_table(LOW, (0, 0, 0), TABLE[::-1] + TABLE), True)
        self.assertIs(is_distance_table(LOW, [0, 0, 0], as_lists(TABLE)), True)
        self.assertIs(is_distance_table(season=LOW, goal=(0, 0, 0), table=TABLE, prices=[1, 1, 1]), True)

    def test_tables_that_are_none(self):
        zero = (0, 0, 0)
        self.assertIs(is_distance_table(LOW, zero, ()), False)
        self.assertIs(is_distance_table(LOW, zero, TABLE[1:]), False)
        self.assertIs(is_distance_table(LOW, zero, TABLE[:-1]), False)
        self.assertIs(is_distance_table(LOW, zero, TABLE + (((0, 0, 1), 2),)), False)
        self.assertIs(is_distance_table(LOW, zero, TABLE + (((0, 1, 1), 2),)), False)
        self.assertIs(is_distance_table(LOW, zero, TABLE[:3] + (((1, 1, 1), 2),)), False)
        self.assertIs(is_distance_table(LOW, zero, TABLE[:3] + (((1, 1, 1), -1),)), False)
        self.assertIs(is_distance_table(LOW, zero, tuple((row, number + 1) for row, number in TABLE)), False)
        self.assertIs(is_distance_table(LOW, zero, TABLE, prices=[1, 1, 2]), False)
        self.assertIs(is_distance_table(FULL, zero, ((zero, 0), ((1, 1, 1), 3))), False)

    def test_goal_that_does_not_run(self):
        for call in (lambda: distances(LOW, [0, 1, 1]), lambda: is_distance_table(LOW, [0, 1, 1], ()),
                     lambda: is_distance_table(LOW, [0, 1, 1], TABLE, prices=[1, 2, 3])):
            with self.assertRaises(NotRunning) as caught:
                call()
            self.assertEqual(caught.exception.setting, (0, 1, 1))

    def test_changed_tables_against_the_definition(self):
        rng = random.Random(137)
        answers = []
        for season in random_seasons(138, 150):
            prices = [rng.randint(1, 3) for _ in season.valley]
            for goal in all_running(season)[:2]:
                rows = list(distances(season, goal, prices=prices))
                for _ in range(6):
                    table = list(rows)
                    at = rng.randrange(len(table))
                    change = rng.randrange(4)
                    if change == 0:
                        table.pop(at)
                    elif change == 1:
                        table[at] = (table[at][0], table[at][1] + rng.choice((-1, 0, 1)))
                    elif change == 2:
                        table.append((rng.choice(all_settings(season.valley)), rng.randint(-1, 4)))
                    rng.shuffle(table)
                    answers.append(plain_table(season, goal, table, prices))
                    self.assertEqual(is_distance_table(season, goal, table, prices=prices), answers[-1])
        self.assertEqual(sorted(set(answers)), [False, True])


class WithinTest(unittest.TestCase):
    def test_within(self):
        self.assertEqual(within(LOW, (0, 0, 0), 0), ((0, 0, 0),))
        self.assertEqual(within(LOW, [1, 1, 1], 1), ((1, 0, 1), (1, 1, 1)))
        self.assertEqual(within(LOW, (0, 0, 0), turns=2), ((0, 0, 0), (0, 0, 1), (1, 0, 1)))
        self.assertEqual(within(LOW, (0, 0, 0)), tuple(all_running(LOW)))
        self.assertEqual(within(season=LOW, setting=(0, 0, 0), turns=None), tuple(all_running(LOW)))
        self.assertEqual(within(LOW, (0, 0, 0), 10 ** 60), tuple(all_running(LOW)))
        self.assertEqual(within(FULL, (1, 1, 1)), ((1, 1, 1),))
        self.assertEqual(within(Season(Valley(1)), (), 3), ((),))

    def test_farthest(self):
        self.assertEqual(farthest(LOW, [0, 0, 0]), (3, ((1, 1, 1),)))
        self.assertEqual(farthest(season=LOW, setting=(0, 0, 1)), (2, ((1, 1, 1),)))
        self.assertEqual(farthest(FULL, (0, 0, 0)), (0, ((0, 0, 0),)))
        self.assertEqual(farthest(Season(Valley(2)), ()), (0, ((),)))
        self.assertEqual(farthest(Season(RING, sides=[(0,), (0, 1), (0, 1)]), (0, 0, 0)), (2, ((0, 1, 1),)))

    def test_not_running(self):
        for call in (lambda: within(LOW, [0, 1, 1]), lambda: within(LOW, [0, 1, 1], 0),
                     lambda: farthest(LOW, [0, 1, 1])):
            with self.assertRaises(NotRunning) as caught:
                call()
            self.assertEqual(caught.exception.setting, (0, 1, 1))

    def test_against_plain_search(self):
        for season in random_seasons(139, 120) + dense_seasons(140, 15):
            for setting in all_running(season)[:3]:
                turns = reach(season, setting)
                for most in (0, 1, 2, 3, None):
                    plain = tuple(sorted(other for other in turns if most is None or turns[other] <= most))
                    self.assertEqual(within(season, setting, most), plain)
                most = max(turns.values())
                self.assertEqual(farthest(season, setting),
                                 (most, tuple(sorted(other for other in turns if turns[other] == most))))


if __name__ == "__main__":
    unittest.main()
