"""Point 67: settings that can be told apart in the dark."""

import itertools
import random
import unittest

from millsluices.catches import tried
from millsluices.errors import NotRunning, SluiceError
from millsluices.seasons import Season
from millsluices.telling import alike_groups, is_alike_table, telling_tries
from millsluices.valleys import Valley
from plain import (all_running, all_settings, dense_seasons, only_tuples, plain_try, random_season, random_seasons,
                   random_valley, runs, same_as, told_apart)

RING = Valley.ring(3)
LOW = Season(RING, needs=[1, 1, 0])
FULL = Season(RING, needs=[1, 1, 1])
ZERO, ONE = (0, 0, 0), (1, 1, 1)


def plain_is_table(season, table):
    pairs = {(tuple(one), tuple(two)) for one, two in table}
    for one, two in pairs:
        if not (runs(season, one) and runs(season, two)):
            return False
        for sluice in range(len(season.valley)):
            (after, answer), (other, another) = plain_try(season, one, sluice), plain_try(season, two, sluice)
            if answer != another or (after, other) not in pairs:
                return False
    return True


class TellingTest(unittest.TestCase):
    def test_ordinary(self):
        self.assertEqual(telling_tries(LOW, ZERO, ONE), (1,))
        self.assertEqual(telling_tries(season=LOW, one=[0, 0, 0], two=[0, 0, 1]), (0,))
        self.assertEqual(alike_groups(FULL), ((ZERO, ONE),))
        self.assertEqual(alike_groups(season=LOW), ((ZERO,), ((0, 0, 1),), ((1, 0, 1),), (ONE,)))
        self.assertTrue(only_tuples(telling_tries(LOW, [0, 0, 0], [1, 1, 1])) and only_tuples(alike_groups(LOW)))

    def test_alike(self):
        self.assertIsNone(telling_tries(FULL, ZERO, ONE))
        self.assertIsNone(telling_tries(LOW, ZERO, ZERO))
        free = Season(RING)
        self.assertEqual(alike_groups(free), (tuple(all_settings(RING)),))
        self.assertIsNone(telling_tries(free, ZERO, (0, 1, 0)))

    def test_nothing_runs_and_no_sluices(self):
        self.assertEqual(alike_groups(Season(RING, needs=[4, 0, 0])), ())
        self.assertEqual(alike_groups(Season(Valley(2))), (((),),))
        self.assertIsNone(telling_tries(Season(Valley(2)), (), ()))
        self.assertIs(is_alike_table(Season(Valley(2)), [((), ())]), True)

    def test_shortest_and_first_tries(self):
        # Both sluices of the first pair move; only after that is there a difference.
        season = Season(Valley(2, [(0, 1)] * 4), needs=[1, 0])
        one, two = (0, 0, 0, 1), (0, 0, 1, 0)
        found = telling_tries(season, one, two)
        self.assertEqual(found, (0, 1, 2))
        self.assertNotEqual(tried(season, one, found)[1], tried(season, two, found)[1])

    def test_groups_stand_in_the_order_of_their_first_settings(self):
        season = Season(Valley(4, [(0, 1), (2, 3), (2, 3)]), needs=[0, 0, 1, 1])
        self.assertEqual(alike_groups(season), (tuple(all_running(season)),))
        mixed = Season(Valley(2, [(0, 1)] * 3), needs=[1, 0])
        self.assertEqual(alike_groups(mixed)[0], ((0, 0, 0),))
        self.assertEqual([group[0] for group in alike_groups(mixed)], all_running(mixed))

    def test_errors_and_their_order(self):
        for two in (ZERO, (0, 1, 0)):
            with self.assertRaises(NotRunning) as caught:
                telling_tries(LOW, [0, 1, 1], two)
            self.assertEqual(caught.exception.setting, (0, 1, 1))
        with self.assertRaises(NotRunning) as caught:
            telling_tries(LOW, ZERO, [0, 1, 0])
        self.assertEqual(caught.exception.setting, (0, 1, 0))
        self.assertIsInstance(caught.exception, SluiceError)

    def test_tables(self):
        for table in ((), [(ZERO, ONE)], [[[0, 0, 0], [1, 1, 1]], (ZERO, ZERO), (ZERO, ONE)]):
            self.assertIs(is_alike_table(FULL, table), True)
        self.assertIs(is_alike_table(season=LOW, table=[(ZERO, ZERO)]), False)
        self.assertIs(is_alike_table(LOW, [(setting, setting) for setting in all_running(LOW)]), True)
        self.assertIs(is_alike_table(LOW, [(ZERO, ONE)]), False)
        self.assertIs(is_alike_table(FULL, [(ZERO, ONE), ((0, 1, 1), (0, 1, 1))]), False)
        self.assertIs(is_alike_table(FULL, [((0, 1, 1), ZERO)]), False)
        self.assertIs(is_alike_table(FULL, [(ZERO, (0, 1, 1))]), False)

    def test_settings_that_do_not_run_in_tables(self):
        # No turn of the second setting leads to one that runs, either.
        four = Season(Valley.ring(4), needs=[1] * 4)
        lone, far = (0, 0, 0, 0), (0, 0, 1, 1)
        self.assertIs(is_alike_table(four, [(lone, (1, 1, 1, 1))]), True)
        for table in ([(lone, far)], [(far, lone)], [(far, far)]):
            self.assertIs(is_alike_table(four, table), False)

    def test_answers_that_differ_in_tables(self):
        # No turn of the first setting is a walk; sluice 2 can be turned in the others.
        season = Season(Valley(4, [(2, 3), (1, 3), (2, 1)]), needs=[0, 1, 0, 1], limits=[None, None, None, 1])
        still, first, second = (0, 1, 1), (1, 0, 0), (1, 0, 1)
        self.assertEqual(all_running(season), [still, first, second])
        self.assertIs(is_alike_table(season, [(still, still)]), True)
        for other in (first, second):
            self.assertIs(is_alike_table(season, [(still, other)]), False)
            self.assertIs(is_alike_table(season, [(other, still)]), False)

    def test_pairs_of_a_table_have_an_order(self):
        free = Season(Valley.row(2))
        self.assertIs(is_alike_table(free, [((0,), (1,)), ((1,), (0,))]), True)
        self.assertIs(is_alike_table(free, [((0,), (1,))]), False)

    def test_against_plain_search(self):
        rng = random.Random(1)
        numbers, sizes = set(), set()
        pairs = [Season(Valley(2, [(0, 1)] * rng.randint(2, 4)), needs=[1, 0]) for _ in range(20)]
        for season in random_seasons(2, 150, tight=0.2) + dense_seasons(3, 25, mills=3, sluices=4) + pairs:
            plain = all_running(season)
            apart = told_apart(season, plain)
            groups, known = [], set()
            for setting in plain:
                if setting not in known:
                    groups.append(tuple(other for other in plain if (setting, other) not in apart))
                    known.update(groups[-1])
            self.assertEqual(alike_groups(season), tuple(groups))
            sizes.update(len(group) for group in groups)
            for _ in range(8 if plain else 0):
                one, two = rng.choice(plain), rng.choice(plain)
                found = telling_tries(season, one, two)
                self.assertEqual(None if found is None else len(found), apart.get((one, two)))
                numbers.add(apart.get((one, two)))
                if found is not None and len(found) < 4:
                    rows = itertools.product(range(len(one)), repeat=len(found))
                    self.assertEqual(found, next(row for row in rows
                                                 if tried(season, one, row)[1] != tried(season, two, row)[1]))
        self.assertTrue({None, 1, 2, 3} <= numbers, numbers)
        self.assertTrue({1, 2, 4} <= sizes)

    def test_changed_tables_against_the_definition(self):
        rng = random.Random(4)
        answers = []
        for _ in range(150):
            valley = random_valley(rng, most_sluices=4)
            season = random_season(rng, valley=valley, tight=0.2)
            full = [(one, two) for group in alike_groups(season) for one in group for two in group]
            self.assertIs(is_alike_table(season, full), True)
            for _ in range(4):
                table = [pair for pair in full if rng.random() < 0.9]
                if rng.random() < 0.3:
                    table.append((rng.choice(all_settings(valley)), rng.choice(all_settings(valley))))
                rng.shuffle(table)
                answers.append(plain_is_table(season, table))
                same_as(self, is_alike_table(season, table), answers[-1])
        self.assertEqual(set(answers), {True, False})


if __name__ == "__main__":
    unittest.main()
