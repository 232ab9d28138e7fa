"""Point 27: shortest walks."""

import random
import unittest

from millsluices.errors import NotRunning
from millsluices.seasons import Season
from millsluices.shortest import shortest_walk, walk_count
from millsluices.valleys import Valley
from plain import all_running, dense_seasons, flip, only_tuples, random_seasons, reach, runs

RING = Valley.ring(3)
LOW = Season(RING, needs=[1, 1, 0])
FULL = Season(RING, needs=[1, 1, 1])


def plain_walks(season, setting, goal, price, prices):
    """All walks of just this price that lead to the goal."""
    if price == 0:
        return [()] if setting == goal else []
    found = []
    for at, cost in enumerate(prices):
        after = flip(setting, at)
        if cost <= price and runs(season, after):
            found += [(at, *rest) for rest in plain_walks(season, after, goal, price - cost, prices)]
    return found


class ShortestTest(unittest.TestCase):
    def test_ordinary(self):
        self.assertEqual(shortest_walk(LOW, (0, 0, 0), (1, 1, 1)), (2, 0, 1))
        self.assertEqual(shortest_walk(Season(RING), [1, 1, 0], [0, 0, 1]), (0, 1, 2))
        self.assertIsNone(shortest_walk(FULL, (0, 0, 0), (1, 1, 1)))
        self.assertEqual(walk_count(LOW, (0, 0, 0), (1, 1, 1)), 1)
        self.assertEqual(walk_count(season=Season(RING), one=[0, 0, 0], two=[1, 1, 1]), 6)
        self.assertEqual(walk_count(FULL, (0, 0, 0), (1, 1, 1)), 0)

    def test_equal_settings(self):
        self.assertEqual(shortest_walk(FULL, (0, 0, 0), [0, 0, 0]), ())
        self.assertEqual(walk_count(FULL, (0, 0, 0), (0, 0, 0)), 1)
        self.assertEqual((shortest_walk(Season(Valley(1)), (), ()), walk_count(Season(Valley(1)), (), ())), ((), 1))

    def test_prices(self):
        season = Season(Valley(3, [(1, 2), (1, 2), (0, 1), (0, 1)]), needs=[0, 1, 1])
        one, two = (0, 1, 0, 0), (1, 0, 0, 0)
        self.assertEqual(shortest_walk(season, one, two), (2, 0, 1, 2))
        self.assertEqual(shortest_walk(season, one, two, prices=[1, 1, 9, 8]), (3, 0, 1, 3))

    def test_not_running(self):
        for call in (shortest_walk, walk_count):
            for one, two in (([0, 1, 1], (0, 0, 0)), ((0, 0, 0), [0, 1, 1]), ([0, 1, 1], [0, 1, 0])):
                with self.assertRaises(NotRunning) as caught:
                    call(FULL, one, two)
                self.assertEqual(caught.exception.setting, (0, 1, 1))

    def test_against_plain_search(self):
        rng = random.Random(161)
        for season in random_seasons(162, 80) + dense_seasons(163, 12, mills=4, sluices=5):
            prices = [rng.randint(1, 3) for _ in season.valley]
            plain = all_running(season)
            for one in plain[:2]:
                turns, costs = reach(season, one), reach(season, one, prices)
                for two in rng.sample(plain, min(4, len(plain))):
                    if two not in turns:
                        self.assertIsNone(shortest_walk(season, one, two))
                        self.assertEqual(walk_count(season, one, two), 0)
                    elif turns[two] <= 6:
                        walks = plain_walks(season, one, two, turns[two], [1] * len(one))
                        self.assertEqual(shortest_walk(season, one, two), min(walks))
                        self.assertEqual(walk_count(season, one, two), len(walks))
                        walks = plain_walks(season, one, two, costs[two], prices) if costs[two] < 9 else []
                        if walks:
                            self.assertEqual(shortest_walk(season, one, two, prices=prices), min(walks))
                            self.assertTrue(only_tuples(shortest_walk(season, one, two, prices=prices)))

    def test_greatest_small_season(self):
        season = Season(Valley(8, [(at % 8, (at + 1) % 8) for at in range(10)]))
        self.assertEqual(shortest_walk(season, (0,) * 10, (1,) * 10), tuple(range(10)))
        self.assertEqual(walk_count(season, (0,) * 10, (1,) * 10), 3628800)


if __name__ == "__main__":
    unittest.main()
