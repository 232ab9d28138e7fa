"""Point 66: trying in the dark."""

import random
import unittest

from millsluices.catches import tried
from millsluices.errors import NotRunning, SluiceError
from millsluices.seasons import Season
from millsluices.valleys import Valley
from plain import all_running, flip, only_tuples, random_seasons, runs

LOW = Season(Valley.ring(3), needs=[1, 1, 0])
ZERO = (0, 0, 0)


class CatchesTest(unittest.TestCase):
    def test_ordinary(self):
        self.assertEqual(tried(LOW, ZERO, [0, 2, 0]), ((1, 0, 1), (False, True, True)))
        self.assertEqual(tried(season=LOW, setting=[0, 0, 0], tries=(0, 2, 0)), ((1, 0, 1), (False, True, True)))
        self.assertEqual(tried(LOW, ZERO, ()), (ZERO, ()))
        found = tried(LOW, [0, 0, 0], [0, 2])
        self.assertTrue(only_tuples(found))
        self.assertTrue(all(answer is True or answer is False for answer in found[1]))

    def test_one_sluice_several_times(self):
        self.assertEqual(tried(LOW, ZERO, [2, 2, 2, 1, 1]), ((0, 0, 1), (True, True, True, False, False)))

    def test_set_sluices(self):
        season = Season(Valley(2, [(0, 1), (0, 1)]), sides=[(0, 1), (0,)])
        self.assertEqual(tried(season, (0, 0), [1, 0, 1]), ((1, 0), (False, True, False)))

    def test_setting_that_does_not_run(self):
        for tries in ((), [0]):
            with self.assertRaises(NotRunning) as caught:
                tried(LOW, [0, 1, 1], tries)
            self.assertEqual(caught.exception.setting, (0, 1, 1))
            self.assertIsInstance(caught.exception, SluiceError)

    def test_against_the_definition(self):
        rng = random.Random(1)
        for season in random_seasons(2, 200):
            for setting in all_running(season)[:2]:
                size = len(season.valley)
                tries = [rng.randrange(size) for _ in range(rng.randint(0, 6))] if size else []
                present, answers = setting, []
                for sluice in tries:
                    answers.append(runs(season, flip(present, sluice)))
                    present = flip(present, sluice) if answers[-1] else present
                self.assertEqual(tried(season, setting, tries), (present, tuple(answers)))


if __name__ == "__main__":
    unittest.main()
