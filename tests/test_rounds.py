"""Point 65: rounds."""

import itertools
import random
import unittest

from millsluices.errors import NotRunning, SluiceError
from millsluices.rounds import are_rounds, fewest_rounds, first_rounds, safe_rounds
from millsluices.seasons import Season
from millsluices.valleys import Valley
from plain import (all_lots, all_running, all_settings, dense_seasons, flips, only_tuples, random_seasons, reach,
                   runs, same_as, walkable)

RING = Valley.ring(3)
FREE = Season(RING)
LOW = Season(RING, needs=[1, 1, 0])
ZERO, ONE = (0, 0, 0), (1, 1, 1)


def plain_safe(season, setting, hands):
    return [row for row in all_lots(len(setting)) if row and (hands is None or len(row) <= hands)
            and all(walkable(season, setting, order) for order in itertools.permutations(row))]


def plain_first(season, one, two, safe):
    """The first of the shortest sequences of safe rounds, by going through all of them."""
    level, known = [((), one)], {one}
    while level:
        good = [rounds for rounds, setting in level if setting == two]
        if good:
            return min(good)
        level = [((*rounds, row), flips(setting, row)) for rounds, setting in level for row in safe[setting]
                 if flips(setting, row) not in known]
        known.update(setting for _, setting in level)
    return None


class RoundsTest(unittest.TestCase):
    def test_ordinary(self):
        self.assertEqual(first_rounds(FREE, ZERO, ONE), ((0, 1, 2),))
        self.assertEqual(fewest_rounds(FREE, ZERO, ONE, hands=2), 2)
        self.assertEqual(fewest_rounds(LOW, ZERO, ONE), 3)
        self.assertEqual(first_rounds(season=LOW, one=[0, 0, 0], two=[1, 1, 1], hands=None), ((2,), (0,), (1,)))
        self.assertEqual(fewest_rounds(season=LOW, one=ZERO, two=ONE, hands=1), 3)
        self.assertTrue(only_tuples(first_rounds(LOW, [0, 0, 0], [1, 1, 1])))

    def test_safe_rounds_in_the_order_by_size(self):
        self.assertEqual(safe_rounds(FREE, ZERO), ((0,), (1,), (2,), (0, 1), (0, 2), (1, 2), (0, 1, 2)))
        self.assertEqual(safe_rounds(FREE, [0, 0, 0], hands=2), ((0,), (1,), (2,), (0, 1), (0, 2), (1, 2)))
        self.assertEqual(safe_rounds(season=FREE, setting=ZERO, hands=1), ((0,), (1,), (2,)))
        self.assertEqual(safe_rounds(LOW, (0, 0, 1)), ((0,), (2,)))
        self.assertEqual(safe_rounds(Season(RING, needs=[1, 1, 1]), ZERO), ())
        self.assertTrue(only_tuples(safe_rounds(FREE, [0, 0, 0])))

    def test_first_in_the_order_of_tuples(self):
        # A round comes before those that begin with it.
        self.assertEqual(first_rounds(FREE, ZERO, ONE, hands=2), ((0,), (1, 2)))
        self.assertEqual(first_rounds(FREE, ZERO, (1, 1, 0), hands=1), ((0,), (1,)))

    def test_no_rounds_at_all(self):
        self.assertEqual((fewest_rounds(LOW, ZERO, ZERO), first_rounds(LOW, ZERO, ZERO)), (0, ()))
        self.assertIs(are_rounds(LOW, ZERO, ()), True)
        self.assertIs(are_rounds(LOW, (0, 1, 1), ()), False)
        self.assertIs(are_rounds(LOW, (0, 1, 1), [[0]]), False)
        full = Season(RING, needs=[1, 1, 1])
        self.assertEqual((fewest_rounds(full, ZERO, ONE), first_rounds(full, ZERO, ONE)), (None, None))

    def test_are_rounds(self):
        self.assertIs(are_rounds(FREE, ZERO, [[0, 1], [2]]), True)
        self.assertIs(are_rounds(season=FREE, setting=[0, 0, 0], rounds=((1, 0), (2,)), hands=2), True)
        self.assertIs(are_rounds(FREE, ZERO, [[0, 1], [2]], hands=1), False)
        self.assertIs(are_rounds(LOW, ZERO, [[2], [0], [1]]), True)
        self.assertIs(are_rounds(LOW, ZERO, [[0, 2], [1]]), False)
        self.assertIs(are_rounds(LOW, ZERO, [[2], [0], [0, 1]]), False)

    def test_empty_rounds_and_repeated_numbers(self):
        self.assertIs(are_rounds(FREE, ZERO, [[]]), False)
        self.assertIs(are_rounds(FREE, ZERO, [[0], [], [1]]), False)
        self.assertIs(are_rounds(FREE, ZERO, [[1, 1, 1]], hands=1), True)
        self.assertIs(are_rounds(FREE, ZERO, [[1, 0, 1]], hands=2), True)
        self.assertIs(are_rounds(FREE, ZERO, [[1, 0, 1]], hands=1), False)

    def test_set_sluices(self):
        season = Season(Valley(2, [(0, 1), (0, 1)]), sides=[(0, 1), (0,)])
        self.assertIs(are_rounds(season, (0, 0), [[1]]), False)
        self.assertEqual(safe_rounds(season, (0, 0)), ((0,),))

    def test_without_sluices(self):
        bare = Season(Valley(1))
        self.assertEqual((safe_rounds(bare, ()), fewest_rounds(bare, (), ()), first_rounds(bare, (), ())), ((), 0, ()))

    def test_errors_and_their_order(self):
        for call in (fewest_rounds, first_rounds):
            for two in (ZERO, (0, 1, 0)):
                with self.assertRaises(NotRunning) as caught:
                    call(LOW, [0, 1, 1], two)
                self.assertEqual(caught.exception.setting, (0, 1, 1))
            with self.assertRaises(NotRunning) as caught:
                call(LOW, ZERO, [0, 1, 0], hands=1)
            self.assertEqual(caught.exception.setting, (0, 1, 0))
        with self.assertRaises(NotRunning) as caught:
            safe_rounds(LOW, [0, 1, 1])
        self.assertEqual(caught.exception.setting, (0, 1, 1))
        self.assertIsInstance(caught.exception, SluiceError)

    def test_against_plain_search(self):
        rng = random.Random(1)
        numbers = set()
        for season in random_seasons(2, 60, tight=0.2) + dense_seasons(3, 25, mills=3, sluices=4):
            plain = all_running(season)
            hands = rng.choice((None, 1, 2, 2, 3))
            safe = {setting: plain_safe(season, setting, hands) for setting in plain}
            for one in rng.sample(plain, min(3, len(plain))):
                self.assertEqual(safe_rounds(season, one, hands=hands), tuple(safe[one]))
                for two in rng.sample(plain, min(3, len(plain))):
                    first = plain_first(season, one, two, safe)
                    self.assertEqual(first_rounds(season, one, two, hands=hands), first)
                    number = fewest_rounds(season, one, two, hands=hands)
                    self.assertEqual(number, None if first is None else len(first))
                    numbers.add(number)
                    self.assertEqual(first is not None, two in reach(season, one))
        self.assertTrue({None, 0, 1, 2, 3} <= numbers)

    def test_are_rounds_against_the_definition(self):
        rng = random.Random(4)
        answers = []
        for season in random_seasons(5, 200, tight=0.1):
            size = len(season.valley)
            for setting in rng.sample(all_settings(season.valley), min(2, 2 ** size)):
                rounds = [[rng.randrange(size) for _ in range(rng.randint(0 if rng.random() < 0.1 else 1, 2))]
                          for _ in range(rng.randint(0, 2))] if size else []
                hands = rng.choice((None, 1, 2))
                present, good = setting, runs(season, setting)
                for row in rounds:
                    good = good and tuple(sorted(set(row))) in plain_safe(season, present, hands)
                    present = flips(present, set(row))
                answers.append(good)
                same_as(self, are_rounds(season, setting, rounds, hands=hands), good)
        self.assertEqual(set(answers), {True, False})

    def test_ten_sluices(self):
        season = Season(Valley(2, [(0, 1)] * 10), needs=[1, 1])
        one, two = (0,) * 9 + (1,), (1,) * 9 + (0,)
        self.assertEqual(fewest_rounds(season, one, two), 3)
        self.assertEqual(fewest_rounds(season, one, two, hands=3), 4)
        self.assertIs(are_rounds(season, one, first_rounds(season, one, two, hands=3), hands=3), True)
        self.assertEqual(len(safe_rounds(Season(season.valley), (0,) * 10)), 1023)


if __name__ == "__main__":
    unittest.main()
