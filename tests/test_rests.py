"""Point 30: mills that rest."""

import random
import unittest

from millsluices.errors import NotRunning
from millsluices.rests import fewest_rests, least_rests, must_rest
from millsluices.seasons import Season
from millsluices.valleys import Valley
from plain import all_lots, all_running, dense_seasons, only_tuples, random_seasons, reach

RING = Valley.ring(3)
FULL = Season(RING, needs=[1, 1, 1])


def plain_joining(season, one, two):
    return [lot for lot in all_lots(season.valley.mills) if two in reach(season.resting(lot), one)]


class RestsTest(unittest.TestCase):
    def test_ordinary(self):
        self.assertEqual(list(least_rests(FULL, (0, 0, 0), (1, 1, 1))), [(0,), (1,), (2,)])
        self.assertEqual(fewest_rests(FULL, [0, 0, 0], [1, 1, 1]), (0,))
        self.assertEqual(must_rest(FULL, (0, 0, 0), (1, 1, 1)), ())

    def test_joined_without_rest(self):
        low = Season(RING, needs=[1, 1, 0])
        for one, two in (((0, 0, 0), (1, 1, 1)), ((0, 0, 0), (0, 0, 0))):
            self.assertEqual(list(least_rests(low, one, two)), [()])
            self.assertEqual((fewest_rests(low, one, two), must_rest(low, one, two)), ((), ()))
        self.assertEqual(list(least_rests(Season(Valley(1)), (), ())), [()])

    def test_rigid_mills_must_rest(self):
        season = Season(RING, needs=[1, 1, 1], limits=[1, 1, 1])
        self.assertEqual(list(least_rests(season=season, one=(0, 0, 0), two=(1, 1, 1))), [(0, 1, 2)])
        self.assertEqual(must_rest(season=season, one=(0, 0, 0), two=(1, 1, 1)), (0, 1, 2))
        self.assertEqual(fewest_rests(season=season, one=(0, 0, 0), two=(1, 1, 1)), (0, 1, 2))

    def test_order_by_size(self):
        season = Season(Valley.ring(4), needs=[1, 1, 1, 1], limits=[1, None, None, None])
        lots = list(least_rests(season, (0, 0, 0, 0), (1, 1, 1, 1)))
        self.assertEqual(lots, sorted(lots, key=lambda lot: (len(lot), lot)))
        self.assertEqual(lots, [(0,)])

    def test_not_running(self):
        for one, two in (([0, 1, 1], (0, 0, 0)), ((0, 0, 0), [0, 1, 1]), ([0, 1, 1], [0, 1, 0])):
            for call in (lambda: next(least_rests(FULL, one, two)), lambda: fewest_rests(FULL, one, two),
                         lambda: must_rest(FULL, one, two)):
                with self.assertRaises(NotRunning) as caught:
                    call()
                self.assertEqual(caught.exception.setting, (0, 1, 1))

    def test_generator_raises_when_the_first_item_is_asked_for(self):
        lazy = least_rests(FULL, (0, 1, 1), (0, 0, 0))
        with self.assertRaises(NotRunning):
            next(lazy)

    def test_generator_broken_off_and_side_by_side(self):
        one, two = least_rests(FULL, (0, 0, 0), (1, 1, 1)), least_rests(FULL, (0, 0, 0), (1, 1, 1))
        self.assertEqual([next(one), next(two), next(two)], [(0,), (0,), (1,)])
        one.close()
        self.assertEqual(list(two), [(2,)])

    def test_against_plain_search(self):
        rng = random.Random(171)
        sizes = set()
        for season in random_seasons(172, 60) + dense_seasons(173, 15) + dense_seasons(174, 10, mills=5, sluices=5):
            plain = all_running(season)
            for one in rng.sample(plain, min(2, len(plain))):
                for two in rng.sample(plain, min(3, len(plain))):
                    joining = plain_joining(season, one, two)
                    least = [lot for lot in joining if not any(set(part) < set(lot) for part in joining)]
                    self.assertEqual(list(least_rests(season, one, two)), least)
                    self.assertTrue(only_tuples(tuple(least_rests(season, list(one), list(two)))))
                    self.assertEqual(fewest_rests(season, one, two), least[0])
                    self.assertEqual(must_rest(season, one, two), tuple(
                        mill for mill in range(season.valley.mills) if all(mill in lot for lot in joining)))
                    sizes.update(len(lot) for lot in least)
        self.assertTrue(max(sizes) > 1)


if __name__ == "__main__":
    unittest.main()
