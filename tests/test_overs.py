"""The module overs: points [34], [167] and [168], so far as they speak of it."""

import unittest

from bentlines.bricks import orders_of_steps
from bentlines.charts import Chart
from bentlines.crossings import edge_counts, edges_of
from bentlines.drawings import Drawing
from bentlines.errors import BadNumber
from bentlines.links import knots_of
from bentlines.overs import crossing_sum, least_steps, line_knots
from bentlines.scattered import is_scattered
from bentlines.steps import longest_chain, steps_of
from tests.helpers import NO_INTEGERS, WITH_KNOT, DueCase, huge_charts, large_charts, small_charts


def told_sums(chart):
    """The sums of [34] for the edges 1 .. n-1: min(h, m-h) over the knots that go over the edge."""
    sums = [0] * chart.size
    for knot in knots_of(chart):
        for h, edge in enumerate(edges_of(chart, knot), start=1):
            sums[edge] += min(h, len(knot) - h)
    return sums[1:]


class CrossingSumTest(DueCase):
    def test_every_small_chart(self):
        """[34] The sum, which is at least min(g, n-g)."""
        for chart in small_charts() + large_charts() + huge_charts()[::3]:
            found = [crossing_sum(chart, edge) for edge in range(1, chart.size)]
            self.assertEqual(told_sums(chart), found)
            for at, many in enumerate(found):
                self.assertGreaterEqual(many, min(at + 1, chart.size - at - 1))
            if chart.simple:
                self.assertEqual(edge_counts(chart), (0, *found))

    def test_all_lines_in_one_knot(self):
        chart = Chart(7, [0] * 35)
        self.assertEqual([1, 2, 3, 3, 2, 1], [crossing_sum(chart, edge) for edge in range(1, 7)])
        self.assertEqual(1, crossing_sum(Chart.fan(2), 1))

    def test_middle_edge(self):
        """[34] [168] Over the middle edge it is the sum of the orders of the crossing steps."""
        for chart in small_charts() + huge_charts():
            if chart.size % 2 == 0:
                told = sum(orders_of_steps(chart, steps_of(chart)))
                self.assertEqual(told, crossing_sum(chart, chart.size // 2))

    def test_refusals(self):
        self.asks_for_chart(crossing_sum, None)
        self.asks_for_edge(crossing_sum)
        self.asks_for_soundness(crossing_sum, 3)
        for edge in (0, 1):
            self.due(BadNumber, {"word": "edge"}, crossing_sum, Chart.fan(1), edge)


class LineKnotsTest(DueCase):
    def test_every_small_chart(self):
        """In the order of the turns of any drawing that has the chart."""
        for chart in small_charts() + large_charts() + huge_charts()[::3]:
            knots = Drawing.of(chart).knots()
            for line in range(chart.size):
                self.assertEqual(tuple(knot for knot in knots if line in knot), line_knots(chart, line))
        self.assertEqual([((0, 1, 2), (0, 3)), ((0, 3), (1, 3), (2, 3)), ()],
                         [line_knots(WITH_KNOT, 0), line_knots(WITH_KNOT, 3), line_knots(Chart.fan(1), 0)])

    def test_refusals(self):
        self.asks_for_chart(line_knots, None)
        self.asks_for_line(line_knots)
        self.asks_for_soundness(line_knots, 3)


class LeastStepsTest(DueCase):
    def test_numbers(self):
        told = [0, 2, 2, 4, 4, 6, 6, 8, 8, 10, 10, 12, 12, 14, 14, 16]
        self.assertEqual(told, [least_steps(n) for n in range(1, 17)])
        for value in (*NO_INTEGERS, 0, -1, 17):
            self.due(BadNumber, {"word": "size"}, least_steps, value)

    def test_scattered_charts(self):
        """[167] A scattered chart has a chain of so many knots, and so many steps."""
        for chart in small_charts() + large_charts() + huge_charts():
            if is_scattered(chart):
                self.assertGreaterEqual(len(longest_chain(chart)), least_steps(chart.size))
                self.assertGreaterEqual(len(steps_of(chart)), least_steps(chart.size))


if __name__ == "__main__":
    unittest.main()
