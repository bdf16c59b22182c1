"""The module loose: points [36] and [37]."""

import unittest
from itertools import combinations, islice, product
from math import comb, prod

from bentlines.charts import Chart
from bentlines.errors import BadKind, BadNumber, BadSigns, NotSimple, TooMany, Unsound
from bentlines.links import knots_of
from bentlines.loose import count_loosenings, loosened, loosenings, simple_count, whole_loosened
from tests.helpers import (NO_CHARTS, NO_INTEGERS, NO_LISTS, UNSOUND, WITH_KNOT, DueCase, huge_charts, large_charts,
                           simple_charts, small_charts, told_knots)

COUNTS = {1: 1, 2: 1, 3: 2, 4: 8, 5: 62}


def flat(size):
    """The chart of so many lines in one knot; one or two lines are no such knot."""
    return Chart(size, [0] * comb(size, 3))


def beside(*charts):
    found = charts[0]
    for chart in charts[1:]:
        found = found + chart
    return found


def told_loosenings(chart):
    """The loosenings of up to five lines by the words of [36], in ascending order."""
    return [other for other in simple_charts(chart.size)
            if all(old in (0, new) for old, new in zip(chart, other))]


class CountsTest(DueCase):
    def test_simple_counts(self):
        """[36] There are 1, 1, 2, 8, 62 simple sound charts of 1, 2, 3, 4, 5 lines."""
        for size, many in COUNTS.items():
            self.assertEqual(many, simple_count(size))
            self.assertEqual(many, len(simple_charts(size)))
        for value in (*NO_INTEGERS, 0, 6, -1, 16, 10 ** 299):
            self.due(BadNumber, {"word": "size"}, simple_count, value)

    def test_products(self):
        """[36] The product, over all knots, of the number of simple sound charts of so many lines."""
        for chart in small_charts() + large_charts() + huge_charts():
            sizes = [len(knot) for knot in knots_of(chart)]
            if max(sizes, default=0) <= 5:
                self.assertEqual(prod(COUNTS[size] for size in sizes), count_loosenings(chart))
            else:
                self.due(TooMany, {"word": "loosenings"}, count_loosenings, chart)

    def test_known_counts(self):
        self.assertEqual(1, count_loosenings(Chart.fan(1)))
        self.assertEqual(1, count_loosenings(Chart.fan(16)))
        self.assertEqual(2, count_loosenings(WITH_KNOT))
        self.assertEqual(62 ** 3, count_loosenings(beside(flat(5), flat(5), flat(5))))

    def test_refusals(self):
        self.asks_for_chart(count_loosenings)
        self.asks_for_soundness(count_loosenings)
        self.due(TooMany, {"word": "loosenings"}, count_loosenings, flat(6))
        self.due(TooMany, {"word": "loosenings"}, count_loosenings, flat(16))
        self.due(TooMany, {"word": "loosenings"}, count_loosenings, Chart.fan(3) + flat(6))
        # Behind Unsound.
        self.due(Unsound, {"four": (6, 7, 8, 9)}, count_loosenings, flat(6) + UNSOUND)


class LooseningsTest(DueCase):
    def test_small_charts(self):
        """[36] All simple sound charts with the same signs other than 0, each once, ascending."""
        for chart in small_charts():
            found = list(loosenings(chart))
            self.assertEqual(told_loosenings(chart), found)
            self.assertEqual(count_loosenings(chart), len(found))

    def test_larger_charts(self):
        charts = [flat(5) + Chart.fan(3), flat(4) + flat(4), flat(3) + flat(5), -(flat(3) + flat(3)) + Chart.fan(4),
                  ~(flat(4) + flat(3)) >> 3]
        for chart in charts + [chart for chart in large_charts() if max(map(len, knots_of(chart))) <= 5]:
            found = list(loosenings(chart))
            self.assertEqual(count_loosenings(chart), len(found))
            self.assertEqual(sorted({other.signs for other in found}), [other.signs for other in found])
            for other in found:
                self.assertTrue(other.sound and other.simple)
                self.assertTrue(all(old in (0, new) for old, new in zip(chart, other)))

    def test_each_knot_for_itself(self):
        """[36] The threes of each knot have the signs of any simple sound chart, one knot independently of others."""
        chart = flat(4) + flat(3)
        found = {(other.part((0, 1, 2, 3)).marks, other.part((4, 5, 6)).marks) for other in loosenings(chart)}
        told = product([part.marks for part in simple_charts(4)], "-+")
        self.assertEqual(set(told), found)

    def test_the_bound(self):
        """At most 5000 are listed, and no knot of more than five lines is loosened."""
        self.assertEqual(4096, len(list(loosenings(beside(flat(4), flat(4), flat(4), flat(4))))))
        first = next(loosenings(flat(5) + flat(5)))
        self.assertEqual({-1}, set(first.part(range_of(0, 5))) | set(first.part(range_of(5, 10))))
        for chart in (beside(flat(5), flat(4), flat(4), flat(3)), beside(flat(5), flat(5), flat(3)), flat(6), flat(16),
                      Chart.fan(2) + flat(6)):
            self.due(TooMany, {"word": "loosenings"}, next, loosenings(chart))

    def test_errors_when_the_iteration_begins(self):
        for value in (*NO_CHARTS, UNSOUND, flat(6)):
            loosenings(value)
        self.asks_for_chart(lambda chart: next(loosenings(chart)))
        self.asks_for_soundness(lambda chart: next(loosenings(chart)))
        self.due(Unsound, {"four": (6, 7, 8, 9)}, next, loosenings(flat(6) + UNSOUND))

    def test_one_after_the_other(self):
        found = list(islice(loosenings(flat(4)), 3))
        self.assertEqual(["----", "---+", "--++"], [chart.marks for chart in found])
        self.assertEqual([Chart.fan(1)], list(loosenings(Chart.fan(1))))
        self.assertEqual([Chart.fan(2)], list(loosenings(Chart.fan(2))))


def range_of(low, high):
    return list(range(low, high))


class LoosenedTest(DueCase):
    def test_every_knot(self):
        """[37] The new chart is sound; its knots are the other knots and the pairs of the knot."""
        for chart in small_charts():
            for knot in told_knots(chart):
                for part in simple_charts(len(knot)):
                    found = loosened(chart, knot[::-1], part.signs)
                    self.assertTrue(found.sound)
                    self.assertEqual(part, found.part(knot))
                    self.assertEqual(found, loosened(chart, list(knot), list(part.signs)))
                    told = [other for other in told_knots(chart) if other != knot] + list(combinations(knot, 2))
                    self.assertEqual(sorted(told), told_knots(found))
                    for three in combinations(range(chart.size), 3):
                        if not set(three) <= set(knot):
                            self.assertEqual(chart.sign(three), found.sign(three))

    def test_known_charts(self):
        self.assertEqual("-+++", loosened(WITH_KNOT, [2, 0, 1], [-1]).marks)
        self.assertEqual("++++", loosened(WITH_KNOT, (0, 1, 2), (1,)).marks)
        self.assertEqual(WITH_KNOT, loosened(WITH_KNOT, (0, 3), ()))
        self.assertEqual(Chart.fan(6), loosened(Chart(6, [0] * 20), range_of(0, 6), [1] * 20))

    def test_refusals_of_chart_and_knot(self):
        """The chart, soundness too, ahead of the knot, and the knot ahead of the signs."""
        self.asks_for_chart(loosened, None, None)
        self.asks_for_knot(loosened, None)
        self.asks_for_soundness(loosened, (0, 1), [])
        self.due(BadKind, {"word": "knot"}, loosened, WITH_KNOT, (0, 1), [7])

    def test_refusals_of_signs(self):
        """What Chart(m, signs) raises for a knot of m lines; a knot of two lines takes no signs."""
        for value in (*NO_LISTS, "+", [], [1, 1], (0, 0)):
            self.due(BadSigns, {"at": -1}, loosened, WITH_KNOT, (0, 1, 2), value)
        for value in (None, "", [1], [0], (1,)):
            self.due(BadSigns, {"at": -1}, loosened, WITH_KNOT, (0, 3), value)
        for value in (*NO_INTEGERS, 2, -2):
            self.due(BadSigns, {"at": 2}, loosened, flat(4), (0, 1, 2, 3), [0, 1, value, None])

    def test_refusals_of_the_signs_together(self):
        """Unsound, then NotSimple, with the lines of the knot named 0 .. m-1."""
        chart = Chart.fan(2) + flat(5)
        knot = (2, 3, 4, 5, 6)
        bad = Chart.fan(1) + UNSOUND
        self.due(Unsound, {"four": (1, 2, 3, 4)}, loosened, chart, knot, bad.signs)
        self.due(Unsound, {"four": (0, 1, 2, 3)}, loosened, chart, knot, (UNSOUND + Chart.fan(1)).signs)
        self.due(Unsound, {"four": (0, 1, 2, 3)}, loosened, flat(4), (0, 1, 2, 3), [0, 0, 1, 1])
        self.due(NotSimple, {"knot": (0, 1, 2, 3, 4)}, loosened, chart, knot, [0] * 10)
        self.due(NotSimple, {"knot": (1, 2, 3)}, loosened, flat(4), (0, 1, 2, 3), [1, 1, 1, 0])
        self.due(NotSimple, {"knot": (0, 1, 2)}, loosened, WITH_KNOT, (0, 1, 2), [0])

    def test_arguments_stay(self):
        knot, signs = [2, 1, 0], [1]
        loosened(WITH_KNOT, knot, signs)
        self.assertEqual(([2, 1, 0], [1]), (knot, signs))


class WholeLoosenedTest(DueCase):
    def test_every_zero(self):
        """[37] If every 0 is replaced by 1, or every 0 by -1, a loosening results."""
        for chart in small_charts() + large_charts() + huge_charts():
            for sign in (1, -1):
                found = whole_loosened(chart, sign)
                self.assertEqual([old or sign for old in chart], list(found))
                self.assertTrue(found.sound and found.simple)
            if chart.size <= 5:
                told = told_loosenings(chart)
                self.assertIn(whole_loosened(chart, 1), told)
                self.assertIn(whole_loosened(chart, -1), told)

    def test_refusals(self):
        self.asks_for_chart(whole_loosened, None)
        for value in (*NO_INTEGERS, 0, 2, -2):
            self.due(BadNumber, {"word": "sign"}, whole_loosened, UNSOUND, value)
            self.due(BadNumber, {"word": "sign"}, whole_loosened, WITH_KNOT, value)
        self.asks_for_soundness(whole_loosened, 1)
        self.asks_for_soundness(whole_loosened, -1)


if __name__ == "__main__":
    unittest.main()
