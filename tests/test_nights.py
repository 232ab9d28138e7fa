"""Point 40: nights."""

import random
import unittest

from millsluices.errors import NotRunning, SluiceError
from millsluices.nights import braced, nights
from millsluices.seasons import Season
from millsluices.valleys import Valley
from plain import (all_running, all_settings, dense_seasons, only_tuples, plain_nights, random_foes, random_seasons,
                   runs, same_as)

WIDE = Season(Valley.ring(3).built([(0, 1)]), needs=[1, 1, 1])
ZERO = (0, 0, 0, 0)


class NightsTest(unittest.TestCase):
    def test_ordinary(self):
        self.assertEqual(nights(WIDE, ZERO, [0, 3]), (ZERO, (0, 0, 0, 1), (1, 0, 0, 0)))
        self.assertEqual(nights(season=WIDE, setting=[0, 0, 0, 0], foes=(3, 0, 3), most=2),
                         (ZERO, (0, 0, 0, 1), (1, 0, 0, 0), (1, 0, 0, 1)))
        self.assertTrue(only_tuples(nights(WIDE, [0, 0, 0, 0], [0])))
        self.assertIs(braced(WIDE, ZERO, [0, 3]), True)
        self.assertIs(braced(season=WIDE, setting=ZERO, foes=[0, 3], most=2), False)

    def test_one_sluice_is_turned_unless_more_are_let(self):
        self.assertEqual(nights(WIDE, ZERO, [0, 1, 2, 3]), nights(WIDE, ZERO, [0, 1, 2, 3], most=1))
        self.assertEqual(len(nights(WIDE, ZERO, [0, 1, 2, 3])), 5)

    def test_no_foes(self):
        for most in (0, 1, 10):
            self.assertEqual(nights(WIDE, ZERO, [], most=most), (ZERO,))
            self.assertIs(braced(WIDE, ZERO, (), most=most), True)

    def test_no_turns_and_more_than_there_are_foes(self):
        self.assertEqual(nights(WIDE, ZERO, [0, 1, 2, 3], most=0), (ZERO,))
        self.assertIs(braced(WIDE, ZERO, [0, 1, 2, 3], most=0), True)
        self.assertEqual(nights(WIDE, ZERO, [0, 1, 2, 3], most=10), tuple(all_settings(WIDE.valley)))
        self.assertEqual(nights(WIDE, ZERO, [1], most=10), (ZERO, (0, 1, 0, 0)))

    def test_each_sluice_is_turned_at_most_once(self):
        self.assertEqual(nights(WIDE, ZERO, [1, 1, 1], most=2), (ZERO, (0, 1, 0, 0)))

    def test_settings_after_a_night_need_not_run(self):
        self.assertEqual(nights(WIDE, ZERO, [1]), (ZERO, (0, 1, 0, 0)))
        self.assertFalse((0, 1, 0, 0) in WIDE)
        self.assertIs(braced(WIDE, ZERO, [1]), False)

    def test_all_sluices_are_turned_at_the_same_time(self):
        # Each turn alone stops a mill, both together do not.
        season = Season(Valley(2, [(0, 1), (1, 0)]), needs=[1, 1], limits=[1, 1])
        self.assertEqual([setting in season for setting in nights(season, (0, 0), [0, 1], most=2)],
                         [True, False, False, True])
        self.assertIs(braced(season, (0, 0), [0, 1], most=2), False)

    def test_not_running(self):
        for call in (nights, braced):
            for most in (0, 1):
                with self.assertRaises(NotRunning) as caught:
                    call(WIDE, [0, 1, 1, 0], [0], most=most)
                self.assertEqual(caught.exception.setting, (0, 1, 1, 0))
                self.assertIsInstance(caught.exception, SluiceError)

    def test_without_sluices(self):
        self.assertEqual(nights(Season(Valley(1)), (), [], most=3), ((),))
        self.assertIs(braced(Season(Valley(1)), (), []), True)

    def test_against_plain_search(self):
        rng = random.Random(1)
        verdicts = []
        for season in random_seasons(2, 120) + dense_seasons(3, 20):
            plain = all_running(season)
            for setting in rng.sample(plain, min(3, len(plain))):
                foes = random_foes(rng, season)
                most = rng.choice((0, 1, 1, 2, 3, 10))
                expected = sorted(plain_nights(setting, foes, most))
                self.assertEqual(nights(season, setting, foes, most=most), tuple(expected))
                verdicts.append(all(runs(season, after) for after in expected))
                same_as(self, braced(season, setting, foes, most=most), verdicts[-1])
        self.assertEqual(set(verdicts), {True, False})


if __name__ == "__main__":
    unittest.main()
