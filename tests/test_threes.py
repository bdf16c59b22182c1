"""The module threes: points [1] to [4]."""

import unittest
from itertools import combinations, permutations

from bentlines.errors import BadKind, BadLine, BadNumber
from bentlines.threes import (four_of, fours, fours_in, inside, lot_of, lots_in, order_sign, pair_of, pairs_in,
                              three_of, threes, threes_in, unlike)
from tests.helpers import NO_INTEGERS, NO_LISTS, DueCase

BAD_SIZES = (*NO_INTEGERS, 0, 17, -1, 10 ** 299)


class ThreesTest(DueCase):
    def test_threes_and_fours(self):
        """[4] The threes, and the fours, as ascending tuples in ascending order."""
        self.assertEqual([(0, 1, 2), (0, 1, 3), (0, 2, 3), (1, 2, 3)], list(threes(4)))
        self.assertEqual([(0, 1, 2, 3)], list(fours(4)))
        for size in range(1, 17):
            self.assertEqual(list(combinations(range(size), 3)), list(threes(size)))
            self.assertEqual(list(combinations(range(size), 4)), list(fours(size)))

    def test_lists(self):
        """The lists of pairs, threes and fours, and of all lots, ascending."""
        for names in ([], (3,), [0, 2, 5, 9, 11, 12], tuple(range(8))):
            for many, call in ((2, pairs_in), (3, threes_in), (4, fours_in)):
                self.assertEqual(list(combinations(names, many)), call(names))
            lots = [lot for many in range(len(names) + 1) for lot in combinations(names, many)]
            self.assertEqual(sorted(lots), lots_in(names))

    def test_size_is_checked(self):
        """[3] A size is an integer from 1 to 16."""
        for size in BAD_SIZES:
            self.due(BadNumber, {"word": "size"}, lambda: list(threes(size)))
            self.due(BadNumber, {"word": "size"}, lambda: list(fours(size)))
            for call in (lot_of, pair_of, three_of, four_of):
                self.due(BadNumber, {"word": "size"}, call, [0, 1], size)
                self.due(BadNumber, {"word": "size"}, call, None, size)

    def test_nothing_is_yielded_ahead_of_the_check(self):
        for call in (threes, fours):
            with self.assertRaises(BadNumber):
                for _ in call(17):
                    self.fail("yielded")


class OrderSignTest(DueCase):
    def test_exchanges(self):
        """[4] The sign of an order changes with each exchange of two entries."""
        for size in range(6):
            for names in permutations(range(size)):
                swaps = 0
                row = list(names)
                for at in range(size):
                    if row[at] != at:
                        other = row.index(at)
                        row[at], row[other] = row[other], row[at]
                        swaps += 1
                self.assertEqual((-1) ** swaps, order_sign(names))
                self.assertEqual((-1) ** swaps, order_sign(list(names)))

    def test_any_integers(self):
        self.assertEqual(1, order_sign([]))
        self.assertEqual(1, order_sign((-5,)))
        self.assertEqual(-1, order_sign((100, -10 ** 200)))
        self.assertEqual(1, order_sign([30, -7, 20]))
        self.assertEqual(-1, order_sign(list(range(1, 60)) + [0]))

    def test_kinds_come_first(self):
        for value in NO_LISTS:
            self.due(BadKind, {"word": "names"}, order_sign, value)
        for value in NO_INTEGERS:
            self.due(BadKind, {"word": "names"}, order_sign, [0, 0, value])

    def test_twice(self):
        self.due(BadLine, {"line": 4}, order_sign, [4, 4])
        self.due(BadLine, {"line": 2}, order_sign, (1, 2, 3, 2, 1))
        self.due(BadLine, {"line": -1}, order_sign, (-1, 5, -1, 5))

    def test_arguments_stay(self):
        names = [2, 0, 1]
        order_sign(names)
        self.assertEqual([2, 0, 1], names)


class LotsTest(DueCase):
    def test_lots_are_ascending_tuples(self):
        """[3] Every lot, pair, three or four that is returned is an ascending tuple."""
        for value in ([3, 0, 15], (15, 3, 0)):
            self.assertEqual((0, 3, 15), lot_of(value, 16))
            self.assertEqual((0, 3, 15), three_of(value, 16))
        for empty in ([], ()):
            self.assertEqual((), lot_of(empty, 1))
        self.assertEqual((0,), lot_of([0], 1))
        self.assertEqual(tuple(range(16)), lot_of(list(range(15, -1, -1)), 16))
        self.assertEqual((0, 1), pair_of([1, 0], 2))
        self.assertEqual((0, 1), pair_of((1, 0), 2))
        self.assertEqual((0, 1, 2, 3), four_of([3, 1, 2, 0], 4))

    def test_kinds(self):
        for value in NO_LISTS:
            self.due(BadKind, {"word": "lot"}, lot_of, value, 4)
            self.due(BadKind, {"word": "pair"}, pair_of, value, 4)
            self.due(BadKind, {"word": "three"}, three_of, value, 4)
            self.due(BadKind, {"word": "four"}, four_of, value, 4)

    def test_numbers_of_entries_come_ahead_of_entries(self):
        for call, word, many in ((pair_of, "pair", 2), (three_of, "three", 3), (four_of, "four", 4)):
            for other in range(7):
                if other != many:
                    self.due(BadKind, {"word": word}, call, list(range(other)), 8)
                    self.due(BadKind, {"word": word}, call, [99] * other, 8)

    def test_entries(self):
        for value in (*NO_INTEGERS, -1, 4, 10 ** 299, [], {}):
            self.due(BadLine, {"line": value}, lot_of, [0, value, 0, 99], 4)
            self.due(BadLine, {"line": value}, pair_of, (2, value), 4)
            self.due(BadLine, {"line": value}, three_of, [2, value, 2], 4)
            self.due(BadLine, {"line": value}, four_of, (2, 3, value, 3), 4)
        self.due(BadLine, {"line": 0}, lot_of, [1, 0, 0, 99], 4)
        self.due(BadLine, {"line": 2}, pair_of, (2, 2), 4)
        self.due(BadLine, {"line": 3}, three_of, (3, 1, 3), 4)
        self.due(BadLine, {"line": 1}, four_of, (1, 2, 1, 2), 4)
        self.due(BadLine, {"line": 0}, lot_of, [0] * 100, 1)

    def test_arguments_stay(self):
        for call, value in ((lot_of, [3, 1]), (pair_of, [3, 1]), (three_of, [3, 1, 2]), (four_of, [3, 1, 2, 0])):
            before = list(value)
            call(value, 4)
            self.assertEqual(before, value)

    def test_inside(self):
        self.assertIs(True, inside((), ()))
        self.assertIs(True, inside([], [1]))
        self.assertIs(True, inside((3, 1), [1, 2, 3]))
        self.assertIs(True, inside([-1], (-1,)))
        self.assertIs(False, inside((3, 4), [1, 2, 3]))
        self.assertIs(False, inside([1], ()))

    def test_unlike(self):
        self.assertEqual((), unlike((), []))
        self.assertEqual((), unlike((2, 1), [1, 2]))
        self.assertEqual((1, 4), unlike([4, 2], (1, 2)))
        self.assertEqual((-3, 5, 100), unlike((100, -3), [5]))
        self.assertEqual((0, 7), unlike((), [7, 0]))


if __name__ == "__main__":
    unittest.main()
