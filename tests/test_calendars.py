"""Point 36: calendars."""

import unittest

from millsluices.calendars import Calendar
from millsluices.errors import BadFollow, SluiceError, ValleysDiffer
from millsluices.seasons import Season
from millsluices.valleys import Valley
from plain import only_tuples

RING = Valley.ring(3)
ONE, TWO, THREE = Season(RING, needs=[1, 1, 0]), Season(RING, needs=[0, 1, 1]), Season(RING)
OTHER = Season(Valley.ring(4))


class CalendarTest(unittest.TestCase):
    def test_fields_are_kept_as_they_were_passed(self):
        calendar = Calendar([ONE, TWO, ONE], [[2, 1, 1, 2], (), [0]])
        self.assertEqual(calendar.seasons, (ONE, TWO, ONE))
        self.assertEqual(calendar.follows, ((2, 1, 1, 2), (), (0,)))
        self.assertTrue(isinstance(calendar.seasons, tuple) and only_tuples(calendar.follows))
        self.assertEqual((len(calendar), list(calendar)), (3, [ONE, TWO, ONE]))
        self.assertEqual([id(season) for season in calendar], [id(season) for season in calendar.seasons])

    def test_by_place_and_by_name(self):
        self.assertEqual(Calendar(seasons=(ONE, TWO), follows=((1,), (0,))), Calendar([ONE, TWO], [[1], [0]]))

    def test_later_changes_of_arguments_have_no_effect(self):
        seasons, follows = [ONE, TWO], [[1], [0, 1]]
        calendar = Calendar(seasons, follows)
        self.assertEqual((seasons, follows), ([ONE, TWO], [[1], [0, 1]]))
        seasons.append(THREE)
        follows[0].append(0)
        follows.clear()
        self.assertEqual((calendar.seasons, calendar.follows), ((ONE, TWO), ((1,), (0, 1))))

    def test_equality(self):
        self.assertTrue(Calendar([ONE], [[0]]) == Calendar((Season(RING, needs=(1, 1, 0)),), ((0,),)))
        self.assertFalse(Calendar([ONE], [[0]]) != Calendar([ONE], [[0]]))
        self.assertTrue(Calendar([ONE], [[0]]) != Calendar([TWO], [[0]]))
        self.assertTrue(Calendar([ONE], [[0]]) != Calendar([ONE], [[0, 0]]))
        self.assertTrue(Calendar([ONE, TWO], [[0, 1], []]) != Calendar([ONE, TWO], [[1, 0], []]))
        for value in ((ONE,), None, 0, ((ONE,), ((0,),)), ONE):
            self.assertFalse(Calendar([ONE], [[0]]) == value)
            self.assertTrue(Calendar([ONE], [[0]]) != value)

    def test_yearly(self):
        self.assertEqual(Calendar.yearly([ONE, TWO, THREE]), Calendar([ONE, TWO, THREE], [[1], [2], [0]]))
        self.assertEqual(Calendar.yearly(seasons=(ONE,)).follows, ((0,),))
        self.assertEqual(Calendar.yearly([ONE, ONE]).follows, ((1,), (0,)))
        self.assertTrue(only_tuples(Calendar.yearly([ONE, TWO]).follows))
        for seasons in ([ONE, OTHER], [OTHER, ONE, ONE], [ONE, TWO, OTHER]):
            with self.assertRaises(ValleysDiffer):
                Calendar.yearly(seasons)

    def test_valleys_differ_comes_first(self):
        for follows in ([[0], [1]], [[7], [0]], [], [[0]] * 3):
            for seasons in ([ONE, OTHER], [OTHER, ONE]):
                with self.assertRaises(ValleysDiffer) as caught:
                    Calendar(seasons, follows)
                self.assertIsInstance(caught.exception, SluiceError)

    def test_bad_follows(self):
        for follows, index in (([[0]], 1), ([], 0), ([[0], [1], []], 2), ([[0], [1], [5]], 2), ([[0], [2]], 1),
                               ([[-1], [1]], 0), ([[0, 1], [0, 1, -2]], 1), ([[0, 1, 2], [9]], 0), ([[9]], 0),
                               ([[0], [1], [], [5]], 2), ([[0], [10 ** 40]], 1)):
            with self.assertRaises(BadFollow) as caught:
                Calendar([ONE, TWO], follows)
            self.assertEqual(caught.exception.index, index)
            self.assertIsInstance(caught.exception, SluiceError)

    def test_seasons_that_nothing_follows_and_that_follow_themselves(self):
        self.assertEqual(Calendar([ONE], [()]).follows, ((),))
        self.assertEqual(Calendar([ONE, TWO], [(0, 0, 0, 0, 0, 0), (1,)]).follows, ((0,) * 6, (1,)))


if __name__ == "__main__":
    unittest.main()
