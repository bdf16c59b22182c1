"""The module insides: points [113] to [115]."""

import unittest
from math import comb

from bentlines.charts import Chart
from bentlines.convex import convex_count
from bentlines.errors import BadKind, BadLine
from bentlines.hulls import hull, layers
from bentlines.insides import empty_threes, holding, inside_count, inside_told, left_of, within
from tests.helpers import (NO_INTEGERS, NO_LISTS, UNSOUND, DueCase, huge_simple_charts, large_simple_charts, lots,
                           small_simple_charts)
from tests.test_fours import told_within


def charts():
    return small_simple_charts() + large_simple_charts()[::2]


def told_holding(chart, point):
    return tuple(three for three in lots(chart.size, 3) if point not in three and told_within(chart, point, three))


class InsidesTest(DueCase):
    def test_every_small_chart(self):
        """[106] [113] The threes that a point is within, and how many the points to the left tell."""
        for chart in charts():
            for point in range(chart.size):
                told = told_holding(chart, point)
                self.assertEqual(told, holding(chart, point))
                self.assertEqual((len(told), len(told)), (inside_count(chart, point), inside_told(chart, point)))
                self.assertIs(point in hull(chart), not told)
                for three in lots(chart.size, 3):
                    if point not in three:
                        self.assertIs(three in told, within(chart, point, three[::-1]))
            total = sum(inside_count(chart, point) for point in range(chart.size))
            self.assertEqual(comb(chart.size, 4) - convex_count(chart), total)

    def test_huge_charts(self):
        for chart in huge_simple_charts():
            counts = [inside_told(chart, point) for point in range(chart.size)]
            self.assertEqual(counts[::5], [inside_count(chart, point) for point in range(0, chart.size, 5)])
            self.assertEqual(comb(chart.size, 4) - convex_count(chart), sum(counts))

    def test_left_of(self):
        """[113] The points whose sign with the way is +."""
        for chart in charts():
            for p in range(chart.size):
                for s in range(chart.size):
                    if p != s:
                        told = [x for x in range(chart.size) if x not in (p, s) and chart.sign((p, s, x)) == 1]
                        self.assertEqual(len(told), left_of(chart, p, s))
        self.assertEqual((0, 0), (left_of(Chart.fan(2), 0, 1), left_of(Chart.fan(2), 1, 0)))
        self.assertEqual((14, 0, 7), (left_of(Chart.fan(16), 3, 4), left_of(Chart.fan(16), 4, 3),
                                      left_of(Chart.fan(16), 8, 0)))

    def test_contrary_and_mirrored(self):
        """[114] The same threes in the contrary chart; in the mirrored chart, points renamed."""
        for chart in charts()[::3]:
            n = chart.size
            for point in range(n):
                self.assertEqual(holding(chart, point), holding(-chart, point))
                renamed = sorted(tuple(sorted(n - 1 - x for x in three)) for three in holding(chart, point))
                self.assertEqual(renamed, list(holding(~chart, n - 1 - point)))

    def test_empty_threes(self):
        """[115] No point is within; each two points are in such a three, each inner point is within hull points."""
        for chart in charts() + huge_simple_charts()[:1]:
            n = chart.size
            told = tuple(three for three in lots(n, 3)
                         if not any(told_within(chart, p, three) for p in range(n) if p not in three))
            self.assertEqual(told, empty_threes(chart))
            if n >= 3:
                self.assertEqual(set(lots(n, 2)), {pair for i, j, k in told for pair in ((i, j), (i, k), (j, k))})
            found = layers(chart)
            for outer, inner in zip(found, found[1:]):
                for point in inner:
                    self.assertTrue(any(set(three) <= set(outer) for three in holding(chart, point)))

    def test_few_points(self):
        for size in (1, 2, 3):
            chart = Chart.fan(size)
            self.assertEqual(((), 0, 0), (holding(chart, 0), inside_count(chart, 0), inside_told(chart, 0)))
            self.assertEqual(tuple(lots(size, 3)), empty_threes(chart))

    def test_refused_points(self):
        for call in (holding, inside_count, inside_told):
            self.asks_for_chart(call, None)
            self.asks_for_line(call)
            self.asks_for_simplicity(call, 3)
        self.asks_for_chart(empty_threes)
        self.asks_for_simplicity(empty_threes)

    def test_refused_threes(self):
        self.asks_for_chart(within, None, None)
        for value in (*NO_INTEGERS, 4, -1):
            self.due(BadLine, {"line": value}, within, UNSOUND, value, None)
            self.due(BadLine, {"line": value}, within, UNSOUND, 0, (0, value, 9))
        for value in (*NO_LISTS, [], [0, 1], (0, 1, 2, 3)):
            self.due(BadKind, {"word": "three"}, within, UNSOUND, 0, value)
        self.due(BadLine, {"line": 2}, within, UNSOUND, 0, [0, 2, 2])
        self.due(BadLine, {"line": 1}, within, UNSOUND, 1, [3, 1, 0])
        self.asks_for_simplicity(within, 3, (0, 1, 2))

    def test_refused_ways(self):
        self.asks_for_chart(left_of, None, None)
        for value in (*NO_INTEGERS, 4, -1):
            self.due(BadLine, {"line": value}, left_of, UNSOUND, value, value)
            self.due(BadLine, {"line": value}, left_of, UNSOUND, value, 0)
            self.due(BadLine, {"line": value}, left_of, UNSOUND, 0, value)
        self.due(BadLine, {"line": 3}, left_of, UNSOUND, 3, 3)
        self.asks_for_simplicity(left_of, 3, 0)


if __name__ == "__main__":
    unittest.main()
