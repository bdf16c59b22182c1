"""The module ratios: point [181], so far as it speaks of ratios, and its heading in the interface."""

import unittest
from fractions import Fraction
from math import gcd

from bentlines.errors import BadKind, BadRatio
from bentlines.ratios import Ratio, compare, mean, ratio_text
from tests.helpers import NO_INTEGERS, DueCase

HUGE = 10 ** 60 - 1
TOPS = (0, 1, -1, 2, -3, 6, 10, -15, HUGE, -HUGE, 10 ** 59)
BOTTOMS = (1, -1, 2, -2, 3, 6, -10, HUGE, -(10 ** 59))
# Values that are no ratio.
NO_RATIOS = (*NO_INTEGERS, Fraction(1, 2))


def fraction(ratio):
    return Fraction(ratio.top, ratio.bottom)


def every_ratio():
    return [(Fraction(top, bottom), Ratio(top, bottom)) for top in TOPS for bottom in BOTTOMS]


class RatioCase(DueCase):
    def told(self, value, found):
        """The result is a Ratio in lowest terms with this value."""
        self.assertIs(Ratio, found.__class__)
        self.assertEqual((value.numerator, value.denominator), (found.top, found.bottom))
        self.assertEqual((1, True), (gcd(found.top, found.bottom), found.bottom > 0))


class RatioTest(RatioCase):
    def test_lowest_terms(self):
        for value, ratio in every_ratio():
            self.told(value, ratio)
        for top in TOPS:
            self.told(Fraction(top), Ratio(top))
            self.told(Fraction(top), Ratio.whole(top))
        self.assertEqual([(1, 2), (-1, 2), (1, 2), (0, 1)], [(ratio.top, ratio.bottom) for ratio in (
            Ratio(2, 4), Ratio(3, -6), Ratio(-5, -10), Ratio(0, -7))])

    def test_operators(self):
        for first, low in every_ratio():
            self.told(-first, -low)
            self.assertEqual((first > 0) - (first < 0), low.signum())
            self.assertIs(first != 0, bool(low))
            for second, high in every_ratio()[::5]:
                self.told(first + second, low + high)
                self.told(first - second, low - high)
                self.told(first * second, low * high)
                if second:
                    self.told(first / second, low.divided(high))
                self.assertIs(first == second, low == high)
                self.assertIs(first != second, low != high)

    def test_integers_on_both_sides(self):
        for first, ratio in every_ratio():
            for number in (0, 1, -7, HUGE):
                self.told(first + number, ratio + number)
                self.told(number + first, number + ratio)
                self.told(first - number, ratio - number)
                self.told(number - first, number - ratio)
                self.told(first * number, ratio * number)
                self.told(number * first, number * ratio)
                self.assertIs(first == number, ratio == number)
                self.assertIs(first == number, number == ratio)
                if number:
                    self.told(first / number, ratio.divided(number))

    def test_equal_to_no_other_kind(self):
        for value in (*NO_RATIOS, "1", 1.0, None, (1, 1), "1/1"):
            self.assertIs(False, Ratio(1) == value)
            self.assertIs(False, Ratio(1, 2) == value)
        self.assertEqual((False, False), (Ratio(1) == True, Ratio(0) == False))  # noqa: E712

    def test_refusals(self):
        for value in NO_RATIOS:
            self.due(BadKind, {"word": "top"}, Ratio, value, 0)
            self.due(BadKind, {"word": "top"}, Ratio, value)
            self.due(BadKind, {"word": "top"}, Ratio.whole, value)
            self.due(BadKind, {"word": "bottom"}, Ratio, 1, value)
            self.due(BadKind, {"word": "other"}, Ratio(1).divided, value)
        self.due(BadKind, {"word": "top"}, Ratio, Ratio(1))
        self.due(BadKind, {"word": "bottom"}, Ratio, 1, Ratio(1))
        self.due(BadRatio, {}, Ratio, 0, 0)
        for value in (0, Ratio(0)):
            self.due(BadRatio, {}, Ratio(1, 2).divided, value)
            self.due(BadRatio, {}, Ratio(0).divided, value)

    def test_the_two_stay(self):
        low, high = Ratio(1, 2), Ratio(2, 3)
        for found in (low + high, low - high, low * high, low.divided(high), -low, low + 1, mean(low, high)):
            self.assertIsNot(low, found)
        self.assertEqual((1, 2, 2, 3), (low.top, low.bottom, high.top, high.bottom))


class FunctionsTest(RatioCase):
    def test_compare_and_mean(self):
        for first, low in every_ratio():
            for second, high in every_ratio()[::7]:
                self.assertEqual((first > second) - (first < second), compare(low, high))
                self.told((first + second) / 2, mean(low, high))
        pairs = ((1, 2), (2, Ratio(4, 2)), (Ratio(1, 2), 0), (3, 3))
        self.assertEqual([-1, 0, 1, 0], [compare(first, second) for first, second in pairs])
        self.told(Fraction(3, 2), mean(1, 2))
        self.told(Fraction(2), mean(1, Ratio(3)))

    def test_text(self):
        told = ["3", "-2/5", "0", "-7", "1/3", "12"]
        given = (Ratio(6, 2), Ratio(2, -5), Ratio(0, 3), -7, Ratio(1, 3), Ratio(12))
        self.assertEqual(told, [ratio_text(ratio) for ratio in given])
        for value, ratio in every_ratio():
            self.assertEqual(str(value), ratio_text(ratio))

    def test_refusals(self):
        for value in NO_RATIOS:
            for call in (compare, mean):
                self.due(BadKind, {"word": "first"}, call, value, None)
                self.due(BadKind, {"word": "second"}, call, 1, value)
                self.due(BadKind, {"word": "second"}, call, Ratio(1, 2), value)
            self.due(BadKind, {"word": "ratio"}, ratio_text, value)


if __name__ == "__main__":
    unittest.main()
