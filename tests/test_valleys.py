"""Point 6: valleys."""

import unittest

from millsluices.errors import BadSluice
from millsluices.valleys import Valley
from plain import only_tuples


class MakingTest(unittest.TestCase):
    def test_fields(self):
        valley = Valley(3, [(0, 1), [2, 1]])
        self.assertEqual((valley.mills, valley.sluices), (3, ((0, 1), (2, 1))))
        self.assertTrue(only_tuples(valley.sluices))

    def test_no_sluices(self):
        self.assertEqual(Valley(1).sluices, ())
        self.assertEqual(Valley(mills=2, sluices=[]).sluices, ())
        self.assertEqual(len(Valley(1)), 0)

    def test_same_two_mills_share_several_sluices(self):
        self.assertEqual(Valley(2, [(0, 1), (0, 1), (1, 0)]).sluices, ((0, 1), (0, 1), (1, 0)))

    def test_bounds(self):
        pairs = [(at % 24, (at + 1) % 24) for at in range(48)]
        valley = Valley(24, pairs)
        self.assertEqual((valley.mills, len(valley)), (24, 48))

    def test_bad_sluices(self):
        bad = {(0, 0): 0, (0, 3): 0, (3, 0): 0, (-1, 0): 0, (0, -1): 0, (10 ** 40, 1): 0}
        for pair, index in bad.items():
            with self.subTest(pair), self.assertRaises(BadSluice) as caught:
                Valley(3, [pair, (0, 0)])
            self.assertEqual(caught.exception.index, index)

    def test_first_bad_sluice_counts(self):
        with self.assertRaises(BadSluice) as caught:
            Valley(3, [(0, 1), [2, 0], (1, 1), (7, 7)])
        self.assertEqual(caught.exception.index, 2)
        with self.assertRaises(BadSluice) as caught:
            Valley(1, [(0, 0)])
        self.assertEqual(caught.exception.index, 0)

    def test_a_later_change_of_the_list_has_no_effect(self):
        pairs = [[0, 1], [1, 2]]
        valley = Valley(3, pairs)
        pairs[0][0] = 2
        pairs.append([0, 2])
        self.assertEqual(valley.sluices, ((0, 1), (1, 2)))


class PythonTest(unittest.TestCase):
    def test_len_and_iteration(self):
        valley = Valley(3, [(2, 0), (0, 1)])
        self.assertEqual(len(valley), 2)
        self.assertEqual(list(valley), [(2, 0), (0, 1)])
        self.assertEqual(list(valley), [(2, 0), (0, 1)])

    def test_equality(self):
        self.assertTrue(Valley(2, [(0, 1)]) == Valley(2, [[0, 1]]))
        self.assertFalse(Valley(2, [(0, 1)]) != Valley(2, [[0, 1]]))
        self.assertFalse(Valley(2, [(0, 1)]) == Valley(2, [(1, 0)]))
        self.assertFalse(Valley(2, [(0, 1)]) == Valley(3, [(0, 1)]))
        self.assertTrue(Valley(2, [(0, 1)]) != Valley(3, [(0, 1)]))

    def test_no_equality_with_other_values(self):
        for value in (None, 2, "", (), ((0, 1),), (2, ((0, 1),)), [(0, 1)]):
            self.assertFalse(Valley(2, [(0, 1)]) == value)
            self.assertTrue(Valley(2, [(0, 1)]) != value)

    def test_sum(self):
        one, two = Valley(2, [(1, 0)]), Valley(3, [(0, 2), (2, 1)])
        self.assertEqual((one + two).mills, 5)
        self.assertEqual((one + two).sluices, ((1, 0), (2, 4), (4, 3)))
        self.assertEqual((two + one).sluices, ((0, 2), (2, 1), (4, 3)))
        self.assertEqual((one.sluices, two.sluices), (((1, 0),), ((0, 2), (2, 1))))
        self.assertEqual((Valley(1) + Valley(1)), Valley(2))


class MethodsTest(unittest.TestCase):
    valley = Valley(4, [(0, 1), (2, 1), (1, 0), (0, 2)])

    def test_touching(self):
        self.assertEqual([self.valley.touching(mill) for mill in range(4)], [(0, 2, 3), (0, 1, 2), (1, 3), ()])
        self.assertEqual(self.valley.touching(mill=2), (1, 3))

    def test_other(self):
        self.assertEqual([self.valley.other(sluice, 1) for sluice in (0, 1, 2)], [0, 2, 0])
        self.assertEqual([self.valley.other(sluice, 0) for sluice in (0, 2, 3)], [1, 1, 2])
        self.assertEqual(self.valley.other(sluice=1, mill=2), 1)

    def test_built(self):
        new = self.valley.built([[3, 0], (0, 1)])
        self.assertEqual(new.sluices, ((0, 1), (2, 1), (1, 0), (0, 2), (3, 0), (0, 1)))
        self.assertEqual(self.valley.built(()), self.valley)
        self.assertEqual(len(self.valley), 4)

    def test_built_bad_sluice_has_the_new_number(self):
        with self.assertRaises(BadSluice) as caught:
            self.valley.built([(0, 3), (3, 3), (9, 9)])
        self.assertEqual(caught.exception.index, 5)
        with self.assertRaises(BadSluice) as caught:
            self.valley.built(pairs=[(-1, 0)])
        self.assertEqual(caught.exception.index, 4)

    def test_without(self):
        self.assertEqual(self.valley.without([2, 0, 2]).sluices, ((2, 1), (0, 2)))
        self.assertEqual(self.valley.without(()), self.valley)
        self.assertEqual(self.valley.without(sluices=(3, 2, 1, 0)), Valley(4))
        self.assertEqual(len(self.valley), 4)

    def test_parts(self):
        self.assertEqual(self.valley.parts, ((0, 1, 2), (3,)))
        self.assertEqual(Valley(3).parts, ((0,), (1,), (2,)))
        self.assertEqual(Valley(5, [(4, 1), (3, 0)]).parts, ((0, 3), (1, 4), (2,)))
        self.assertEqual(Valley(6, [(5, 4), (4, 3), (3, 2), (2, 1), (1, 0)]).parts, ((0, 1, 2, 3, 4, 5),))
        self.assertEqual(Valley.row(24).parts, (tuple(range(24)),))

    def test_ring_and_row(self):
        self.assertEqual(Valley.ring(2).sluices, ((0, 1), (1, 0)))
        self.assertEqual(Valley.ring(mills=4).sluices, ((0, 1), (1, 2), (2, 3), (3, 0)))
        self.assertEqual(len(Valley.ring(24)), 24)
        self.assertEqual(Valley.row(1), Valley(1))
        self.assertEqual(Valley.row(mills=3), Valley(3, [(0, 1), (1, 2)]))

    def test_static_methods_are_called_off_objects_too(self):
        self.assertEqual(self.valley.row(2), Valley(2, [(0, 1)]))
        self.assertEqual(self.valley.ring(2), Valley(2, [(0, 1), (1, 0)]))


if __name__ == "__main__":
    unittest.main()
