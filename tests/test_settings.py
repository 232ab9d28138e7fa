"""Point 7: settings."""

import unittest

from millsluices.settings import differing, fed, feeds, is_setting, settings, turned
from millsluices.valleys import Valley
from plain import all_settings, random_seasons

RING = Valley.ring(3)


class SettingsTest(unittest.TestCase):
    def test_feeds(self):
        self.assertEqual([feeds(RING, (0, 1, 1), sluice) for sluice in range(3)], [0, 2, 0])
        self.assertEqual(feeds(valley=RING, setting=[1, 0, 0], sluice=0), 1)

    def test_fed(self):
        self.assertEqual(fed(RING, (0, 0, 0)), (1, 1, 1))
        self.assertEqual(fed(RING, [0, 1, 1]), (2, 0, 1))
        self.assertEqual(fed(Valley(2), ()), (0, 0))
        self.assertEqual(fed(Valley(2, [(0, 1), (1, 0), (0, 1)]), (1, 0, 1)), (0, 3))

    def test_turned(self):
        self.assertEqual(turned((0, 1, 1), [2, 0, 2]), (1, 1, 1))
        self.assertEqual(turned((0, 1), ()), (0, 1))
        self.assertEqual(turned((), ()), ())
        before = [0, 1]
        self.assertEqual(turned(before, [1, 1, 1]), (0, 0))
        self.assertEqual(before, [0, 1])

    def test_differing(self):
        self.assertEqual(differing((0, 1, 0), [1, 1, 1]), (0, 2))
        self.assertEqual(differing((0, 1), (0, 1)), ())
        self.assertEqual(differing((), ()), ())

    def test_settings_in_order(self):
        self.assertEqual(list(settings(Valley(1))), [()])
        self.assertEqual(list(settings(Valley.row(3))), [(0, 0), (0, 1), (1, 0), (1, 1)])
        for season in random_seasons(5, 20):
            self.assertEqual(list(settings(season.valley)), all_settings(season.valley))

    def test_settings_of_twelve_sluices(self):
        found = list(settings(Valley.ring(12)))
        self.assertEqual(len(found), 4096)
        self.assertEqual(found, sorted(found))
        self.assertEqual(len(set(found)), 4096)

    def test_generator_broken_off_and_side_by_side(self):
        one, two = settings(RING), settings(RING)
        self.assertEqual([next(one), next(one), next(two), next(one)], [(0, 0, 0), (0, 0, 1), (0, 0, 0), (0, 1, 0)])
        one.close()
        self.assertEqual(next(two), (0, 0, 1))
        self.assertEqual(len(list(settings(RING))), 8)

    def test_is_setting(self):
        for value in ((0, 1, 0), [1, 1, 1]):
            self.assertIs(is_setting(RING, value), True)
        for value in ((0, 1), (0, 1, 0, 0), (0, 1, 2), (0, -1, 0), [], (0, 1, 10 ** 30)):
            self.assertIs(is_setting(RING, value), False)
        self.assertIs(is_setting(Valley(3), ()), True)
        self.assertIs(is_setting(Valley(3), []), True)
        self.assertIs(is_setting(Valley(3), (0,)), False)


if __name__ == "__main__":
    unittest.main()
