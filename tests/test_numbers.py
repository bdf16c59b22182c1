"""The module numbers: point [1]."""

import unittest
from itertools import combinations

from bentlines.errors import BadNumber
from bentlines.numbers import check_int, choose, is_int, sign_of
from tests.helpers import NO_INTEGERS, DueCase


class NumbersTest(DueCase):
    def test_is_int(self):
        """[1] An integer is an int other than True and False."""
        for value in (0, 1, -1, 7, 10 ** 299, -10 ** 299):
            self.assertIs(True, is_int(value))
        for value in (*NO_INTEGERS, 0.0, "", b"1", [], {}, object()):
            self.assertIs(False, is_int(value))

    def test_check_int_returns_the_value(self):
        for value in (3, 4, 5):
            self.assertEqual(value, check_int(value, "word", 3, 5))
        self.assertEqual(0, check_int(0, "word", 0, 0))
        self.assertEqual(-2, check_int(-2, "word", -2, None))
        self.assertEqual(10 ** 299, check_int(10 ** 299, "word", 3, None))
        self.assertEqual(-10 ** 299, check_int(-10 ** 299, "word", None, 5))
        self.assertEqual(9, check_int(9, "word", None, None))

    def test_check_int_refuses(self):
        for value in NO_INTEGERS:
            self.due(BadNumber, {"word": "some"}, check_int, value, "some", None, None)
            self.due(BadNumber, {"word": "some"}, check_int, value, "some", 0, 1)
        for value, least, most in ((2, 3, 5), (6, 3, 5), (-3, -2, None), (6, None, 5), (-1, 0, 0), (1, 0, 0)):
            self.due(BadNumber, {"word": "other"}, check_int, value, "other", least, most)

    def test_choose_counts(self):
        """[1] choose(n, k) is the number of ways to choose k of n things."""
        for n in range(9):
            for k in range(n + 1):
                self.assertEqual(len(list(combinations(range(n), k))), choose(n, k))
        self.assertEqual((560, 1820), (choose(16, 3), choose(16, 4)))
        self.assertEqual(choose(999, 499) + choose(999, 500), choose(1000, 500))

    def test_choose_is_0_elsewhere(self):
        for n, k in ((3, 4), (3, -1), (0, 1), (0, -1), (-1, 0), (-1, -1), (-3, -5), (-5, -3), (-4, 2)):
            self.assertEqual(0, choose(n, k), (n, k))

    def test_choose_refuses(self):
        for value in NO_INTEGERS:
            self.due(BadNumber, {"word": "n"}, choose, value, 1)
            self.due(BadNumber, {"word": "k"}, choose, 1, value)
            self.due(BadNumber, {"word": "n"}, choose, value, value)

    def test_sign_of(self):
        found = [sign_of(number) for number in (-10 ** 299, -2, -1, 0, 1, 2, 10 ** 299)]
        self.assertEqual([-1, -1, -1, 0, 1, 1, 1], found)


if __name__ == "__main__":
    unittest.main()
