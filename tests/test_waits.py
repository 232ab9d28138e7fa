"""Point 54: waits."""

import itertools
import random
import unittest

from millsluices.seasons import Season
from millsluices.valleys import Valley
from millsluices.waits import fewest_waits, secures, waits_for
from plain import (all_running, all_settings, dense_seasons, is_whole, large_season, only_tuples, random_rows,
                   random_seasons, same_as, walkable, weavings, woven)

RING = Valley.ring(3)
NEEDY = Season(RING, needs=[1, 0, 0])
FREE = Season(RING)
UP = (0, 0, 1)
ROWS = ((0,), (2, 2))


def plain_keeps(rows, weaving, waits):
    for hand, step, other, count in waits:
        at = [index for index, number in enumerate(weaving) if number == hand]
        if len(at) > step and weaving[:at[step]].count(other) < count:
            return False
    return True


def plain_secures(season, setting, rows, waits):
    keeping = [weaving for weaving in weavings(rows) if plain_keeps(rows, weaving, waits)]
    known = set(keeping)
    return all(walkable(season, setting, woven(rows, weaving)) and
               (is_whole(rows, weaving) or any((*weaving, hand) in known for hand in range(len(rows))))
               for weaving in keeping)


def plain_waits(rows):
    return [(hand, step, other, count) for hand, turns in enumerate(rows) for step in range(len(turns))
            for other, others in enumerate(rows) if other != hand for count in range(1, len(others) + 1)]


class SecuresTest(unittest.TestCase):
    def test_ordinary(self):
        self.assertIs(secures(NEEDY, UP, [[0], [2, 2]], [[0, 0, 1, 2]]), True)
        self.assertIs(secures(season=NEEDY, setting=UP, rows=ROWS, waits=((0, 0, 1, 1),)), False)
        self.assertIs(secures(NEEDY, UP, ROWS, ()), False)
        self.assertIs(secures(FREE, UP, ROWS, ()), True)

    def test_any_order_and_repeated(self):
        waits = [(0, 0, 1, 2), (0, 0, 1, 1), (0, 0, 1, 2)]
        for order in itertools.permutations(waits):
            self.assertIs(secures(NEEDY, UP, ROWS, order), True)

    def test_waits_that_contradict_each_other(self):
        self.assertIs(secures(FREE, UP, ROWS, [(0, 0, 1, 1), (1, 0, 0, 1)]), False)
        self.assertIs(secures(FREE, UP, ROWS, [(0, 0, 1, 2), (1, 1, 0, 1)]), False)
        self.assertIs(secures(FREE, UP, ROWS, [(0, 0, 1, 1), (1, 1, 0, 1)]), True)
        three = [[0], [1], [2]]
        self.assertIs(secures(FREE, UP, three, [(0, 0, 1, 1), (1, 0, 2, 1), (2, 0, 0, 1)]), False)
        self.assertIs(secures(FREE, UP, three, [(0, 0, 1, 1), (1, 0, 2, 1)]), True)

    def test_a_step_waits_although_later_ones_do_not(self):
        self.assertIs(secures(NEEDY, UP, [[2, 2], [0]], [(1, 0, 0, 2)]), True)
        self.assertIs(secures(NEEDY, UP, [[1, 1, 0], [2, 2]], [(0, 2, 1, 2)]), True)
        self.assertIs(secures(NEEDY, UP, [[1, 1, 0], [2, 2]], [(0, 1, 1, 2)]), True)
        self.assertIs(secures(NEEDY, UP, [[0, 1, 1], [2, 2]], [(0, 1, 1, 2)]), False)

    def test_setting_that_does_not_run(self):
        for rows in (ROWS, ((),), ((), ())):
            self.assertIs(secures(NEEDY, (1, 0, 0), rows, ()), False)
            self.assertIsNone(waits_for(NEEDY, (1, 0, 0), rows))
            self.assertIsNone(fewest_waits(NEEDY, (1, 0, 0), rows[:2]))

    def test_rows_without_turns(self):
        for rows in (((),), ((), ())):
            self.assertIs(secures(NEEDY, UP, rows, ()), True)
            self.assertEqual((waits_for(NEEDY, UP, rows), fewest_waits(NEEDY, UP, rows)), ((), ()))

    def test_against_plain_search(self):
        rng = random.Random(1)
        answers = []
        for season in random_seasons(2, 100) + dense_seasons(3, 200, mills=3, sluices=4):
            for setting in rng.sample(all_settings(season.valley), min(2, 2 ** len(season.valley))):
                rows = random_rows(rng, len(season.valley))
                possible = plain_waits(rows)
                waits = rng.sample(possible, min(len(possible), rng.choice((0, 1, 2, 3, 5))))
                answers.append(plain_secures(season, setting, rows, waits))
                same_as(self, secures(season, setting, rows, waits), answers[-1])
        self.assertTrue(30 < answers.count(True) < len(answers) - 30)


class WaitsForTest(unittest.TestCase):
    def test_ordinary(self):
        waits = waits_for(NEEDY, [0, 0, 1], [[0], [2, 2]])
        self.assertIs(secures(NEEDY, UP, ROWS, waits), True)
        self.assertTrue(only_tuples(waits))
        self.assertIsNone(waits_for(season=NEEDY, setting=(0, 0, 0), rows=ROWS))

    def test_one_hand(self):
        self.assertEqual(waits_for(NEEDY, UP, [[2, 2, 0]]), ())
        self.assertIsNone(waits_for(NEEDY, UP, [[2, 0, 2]]))
        self.assertEqual(fewest_waits(NEEDY, UP, [[2, 2, 0]]), ())
        self.assertIsNone(fewest_waits(NEEDY, UP, [[2, 0, 2]]))

    def test_against_plain_search(self):
        rng = random.Random(4)
        found = []
        for season in random_seasons(5, 100) + dense_seasons(6, 100, mills=3, sluices=4):
            for setting in rng.sample(all_settings(season.valley), min(2, 2 ** len(season.valley))):
                rows = random_rows(rng, len(season.valley))
                good = any(is_whole(rows, weaving) and walkable(season, setting, woven(rows, weaving))
                           for weaving in weavings(rows))
                waits = waits_for(season, setting, rows)
                found.append(waits)
                self.assertEqual(waits is not None, good)
                if good:
                    self.assertTrue(set(waits) <= set(plain_waits(rows)))
                    self.assertTrue(plain_secures(season, setting, rows, waits))
                    self.assertIs(secures(season, setting, rows, waits), True)
        self.assertTrue(None in found and () in found and max(len(waits or ()) for waits in found) > 2)

    def test_large_seasons_and_four_hands_with_six_turns(self):
        found = set()
        for seed in range(8):
            season, setting = large_season(seed, slack=2)
            rng = random.Random(seed)
            free = [sluice for sluice in range(48) if walkable(season, setting, [sluice])]
            rows = [[rng.choice(free)] * 2 + [rng.choice(free)] * 2 + [rng.choice(free)] * 2 for _ in range(4)]
            waits = waits_for(season, setting, rows)
            found.add(waits is None)
            if waits is not None:
                self.assertIs(secures(season, setting, rows, waits), True)
        self.assertTrue(False in found)
        season = Season(Valley(2, [(0, 1)] * 48), needs=[24, 24])
        self.assertIsNone(waits_for(season, (0, 1) * 24, [[0] * 6] * 4))


class FewestWaitsTest(unittest.TestCase):
    def test_ordinary(self):
        self.assertEqual(fewest_waits(NEEDY, [0, 0, 1], [[0], [2, 2]]), ((0, 0, 1, 2),))
        self.assertEqual(fewest_waits(season=FREE, setting=UP, rows=ROWS), ())
        self.assertIsNone(fewest_waits(NEEDY, (0, 0, 0), ROWS))
        self.assertTrue(only_tuples(fewest_waits(NEEDY, [0, 0, 1], [[0], [2, 2]])))

    def test_several(self):
        season = Season(Valley(2, [(0, 1), (0, 1)]), needs=[1, 1])
        self.assertIsNone(fewest_waits(season, (0, 1), [[0], [1]]))
        season = Season(Valley(2, [(0, 1)] * 3), needs=[1, 1])
        rows = [[0, 1, 0], [1, 2, 2]]
        waits = fewest_waits(season, (1, 1, 0), rows)
        self.assertEqual(waits, ((0, 0, 1, 2), (0, 2, 1, 3), (1, 2, 0, 2)))
        self.assertTrue(plain_secures(season, (1, 1, 0), rows, waits))
        self.assertEqual(len(fewest_waits(season, (1, 0, 0), [[1, 2, 0], [0, 1, 2]])), 5)

    def test_against_plain_search(self):
        rng = random.Random(7)
        sizes = set()
        pairs = [Season(Valley(2, [(0, 1)] * rng.choice((2, 3))), needs=[1, rng.randint(0, 1)]) for _ in range(120)]
        for season in random_seasons(8, 60, tight=0.2) + dense_seasons(9, 40, mills=3, sluices=4) + pairs:
            plain = all_running(season)
            for setting in rng.sample(plain, min(1, len(plain))):
                size = len(season.valley)
                rows = random_rows(rng, size, hands=2, turns=rng.choice((2, 2, 3)))
                if season in pairs:
                    rows = [[rng.randrange(size) for _ in range(3)] for _ in range(2)]
                possible = plain_waits(rows)
                waits = fewest_waits(season, setting, rows)
                sizes.add(waits if waits is None else len(waits))
                if waits is None:
                    self.assertIsNone(waits_for(season, setting, rows))
                elif len(waits) < 3:
                    first = next(some for size in range(3) for some in itertools.combinations(possible, size)
                                 if plain_secures(season, setting, rows, some))
                    self.assertEqual(waits, first)
                else:
                    self.assertTrue(plain_secures(season, setting, rows, waits))
                    for some in itertools.combinations(possible, 2):
                        self.assertFalse(plain_secures(season, setting, rows, some))
        self.assertTrue({None, 0, 1, 2, 3} <= sizes, sizes)


if __name__ == "__main__":
    unittest.main()
