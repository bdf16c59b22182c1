"""The module crossings: points [31] to [35]."""

import unittest
from itertools import combinations
from math import comb

from bentlines.charts import Chart
from bentlines.crossings import above, depth, edge_counts, edge_of, edges_of, knots_over, side_of
from bentlines.errors import BadLine, BadNumber, NotSimple
from tests.helpers import (NO_INTEGERS, UNSOUND, WITH_KNOT, DueCase, every_drawing, huge_charts, large_charts,
                           simple_charts, small_charts, some_drawings, told_knots)


def some_of_each_size():
    return [drawing for size in (1, 2, 3, 4) for drawing in every_drawing(size)] + [
        drawing for size, many in ((5, 9), (7, 5), (12, 1)) for drawing in some_drawings(size, many)]


def turns_with_rows(drawing):
    """For each turn its stand and length, the lots of lines that it turns, and the row ahead of it."""
    return [(turn, knot, row) for turn, knot, row in zip(drawing.turns, drawing.knots(), drawing.rows())]


def every_meeting(size):
    """All pairs with all other lines."""
    return [(pair, line) for pair in combinations(range(size), 2) for line in range(size) if line not in pair]


def told_edges(chart, knot):
    """The edges by the words of [33]: p+1, .., p+m-1 with p the number of lines above."""
    p = sum(side_of(chart, knot[:2], line) == 1 for line in range(chart.size) if line not in knot)
    return tuple(range(p + 1, p + len(knot)))


class SideTest(DueCase):
    def test_three_lines(self):
        """[31] The sides at the meetings of a three of each sign."""
        sides = {"+": (-1, 1, -1), "-": (1, -1, 1), "0": (0, 0, 0)}
        for mark, told in sides.items():
            chart = Chart.told(3, mark)
            found = tuple(side_of(chart, pair, line) for pair, line in every_meeting(3))
            self.assertEqual(told, found)

    def test_rows_of_drawings(self):
        """[31] [32] At the turn of a knot the lines above it have the stands above, the others those below."""
        for drawing in some_of_each_size():
            chart = drawing.chart()
            for turn, knot, row in turns_with_rows(drawing):
                self.check_row(chart, row, knot[-2:], knot)

    def check_row(self, chart, row, pair, knot):
        at = row.index(min(knot))
        self.assertEqual(at, depth(chart, pair))
        self.assertEqual(tuple(sorted(row[:at])), above(chart, pair))
        for line in row:
            if line not in pair:
                side = 0 if line in knot else 1 if row.index(line) < at else -1
                self.assertEqual(side, side_of(chart, pair, line))
                self.assertEqual(side, side_of(chart, list(pair[::-1]), line))

    def test_pairs_of_a_knot(self):
        """[32] All pairs of a knot have the same lines above their meeting."""
        for chart in small_charts():
            for knot in told_knots(chart):
                self.assertEqual(1, len({above(chart, pair) for pair in combinations(knot, 2)}))

    def test_made_charts(self):
        """[35] Sides of the contrary, the mirrored and the rolled chart."""
        for chart in small_charts() + large_charts():
            last = chart.size - 1
            for (i, j), line in every_meeting(chart.size):
                side = side_of(chart, (i, j), line)
                self.assertEqual(-side, side_of(-chart, (i, j), line))
                self.assertEqual(side, side_of(~chart, (last - i, last - j), last - line))
                rolled = side_of(chart >> 1, [(x + 1) % chart.size for x in (i, j)], (line + 1) % chart.size)
                self.assertEqual(-side if line == last else side, rolled)

    def test_refusals(self):
        self.asks_for_chart(side_of, None, None)
        self.asks_for_chart(above, None)
        self.asks_for_chart(depth, None)
        self.asks_for_pair(side_of, None)
        self.asks_for_pair(above)
        self.asks_for_pair(depth)
        self.asks_for_line(side_of, (0, 1))
        self.asks_for_soundness(side_of, (0, 1), 2)
        self.asks_for_soundness(above, (0, 1))
        self.asks_for_soundness(depth, [1, 0])
        # A line of the pair is refused like a value that is no line.
        for line in (1, 3):
            self.due(BadLine, {"line": line}, side_of, UNSOUND, [3, 1], line)
            self.due(BadLine, {"line": line}, side_of, WITH_KNOT, (1, 3), line)
        self.due(BadLine, {"line": 0}, side_of, Chart.fan(1), (0, 0), 0)
        self.assertEqual((), above(Chart.fan(2), (1, 0)))
        self.assertEqual(0, depth(Chart.fan(2), [0, 1]))


class EdgesTest(DueCase):
    def test_edges_of_knots(self):
        """[33] A knot of m lines at depth p goes over the edges p+1, .., p+m-1."""
        for drawing in some_of_each_size():
            chart = drawing.chart()
            for (p, m), knot in zip(drawing.turns, drawing.knots()):
                self.assertEqual(tuple(range(p + 1, p + m)), edges_of(chart, knot))
                self.assertEqual(tuple(range(p + 1, p + m)), edges_of(chart, list(knot[::-1])))

    def test_knots_over_edges(self):
        for chart in small_charts() + large_charts():
            knots = told_knots(chart)
            for edge in range(1, chart.size):
                told = [knot for knot in knots if edge in told_edges(chart, knot)]
                self.assertEqual(tuple(told), knots_over(chart, edge))

    def test_edge_of_pairs(self):
        """The only edge of a knot of two lines; larger knots are told by NotSimple."""
        for chart in small_charts():
            for knot in told_knots(chart):
                for pair in combinations(knot, 2):
                    if len(knot) == 2:
                        self.assertEqual((edge_of(chart, pair[::-1]),), told_edges(chart, knot))
                    else:
                        self.due(NotSimple, {"knot": knot}, edge_of, chart, list(pair[::-1]))
        self.assertEqual(1, edge_of(Chart.fan(2), (0, 1)))
        self.due(NotSimple, {"knot": (0, 1, 2)}, edge_of, WITH_KNOT, (2, 0))
        self.assertEqual(1, edge_of(WITH_KNOT, (3, 2)))

    def test_counts(self):
        """[33] How many knots go over each edge of a simple chart; together n*(n-1)/2."""
        charts = [chart for size in (1, 2, 3, 4, 5) for chart in simple_charts(size)]
        for chart in charts + [chart for chart in large_charts() + huge_charts() if chart.simple]:
            told = [edge for knot in combinations(range(chart.size), 2) for edge in told_edges(chart, knot)]
            counts = edge_counts(chart)
            self.assertEqual(tuple(told.count(edge) for edge in range(chart.size)), counts)
            self.assertEqual(comb(chart.size, 2), sum(counts))
            for edge in range(1, chart.size):
                self.assertGreaterEqual(counts[edge], min(edge, chart.size - edge))
                self.assertEqual(counts[edge], len(knots_over(chart, edge)))

    def test_known_counts(self):
        self.assertEqual((0,), edge_counts(Chart.fan(1)))
        self.assertEqual((0, 1), edge_counts(Chart.fan(2)))
        self.assertEqual((0, 2, 1), edge_counts(Chart.fan(3)))
        self.assertEqual((0, 15, 14, 13, 12, 11, 10, 9, 8, 7, 6, 5, 4, 3, 2, 1), edge_counts(Chart.fan(16)))

    def test_least_sums(self):
        """[34] The sum of min(h, m-h) over the knots over edge g is at least min(g, n-g)."""
        for chart in small_charts() + large_charts() + huge_charts():
            for edge in range(1, chart.size):
                total = 0
                for knot in knots_over(chart, edge):
                    h = edges_of(chart, knot).index(edge) + 1
                    total += min(h, len(knot) - h)
                self.assertGreaterEqual(total, min(edge, chart.size - edge))

    def test_made_charts(self):
        """[35] Edges of the contrary and of the mirrored chart."""
        for chart in small_charts() + large_charts():
            n = chart.size
            for knot in told_knots(chart):
                edges = edges_of(chart, knot)
                self.assertEqual(tuple(n - edge for edge in edges[::-1]), edges_of(-chart, knot))
                self.assertEqual(edges, edges_of(~chart, [n - 1 - line for line in knot]))

    def test_refusals(self):
        self.asks_for_chart(edges_of, None)
        self.asks_for_knot(edges_of)
        self.asks_for_chart(edge_of, None)
        self.asks_for_pair(edge_of)
        self.asks_for_soundness(edge_of, (0, 1))
        self.asks_for_chart(edge_counts)
        self.asks_for_soundness(edge_counts)
        self.asks_for_chart(knots_over, None)
        self.asks_for_soundness(knots_over, 1)
        self.asks_for_soundness(knots_over, 3)
        for value in (*NO_INTEGERS, 0, 4, -1, 10 ** 299):
            self.due(BadNumber, {"word": "edge"}, knots_over, UNSOUND, value)
            self.due(BadNumber, {"word": "edge"}, knots_over, WITH_KNOT, value)
        for value in (0, 1):
            self.due(BadNumber, {"word": "edge"}, knots_over, Chart.fan(1), value)

    def test_least_knot_of_a_chart_that_is_not_simple(self):
        self.due(NotSimple, {"knot": (0, 1, 2)}, edge_counts, WITH_KNOT)
        self.due(NotSimple, {"knot": (1, 2, 3)}, edge_counts, Chart.told(4, "+++0"))
        self.due(NotSimple, {"knot": (0, 1, 2, 3)}, edge_counts, Chart(4, [0] * 4) + WITH_KNOT)
        for chart in small_charts() + large_charts():
            large = [knot for knot in told_knots(chart) if len(knot) > 2]
            if large:
                self.due(NotSimple, {"knot": large[0]}, edge_counts, chart)
        # A chart may be neither sound nor simple: then it is not sound.
        self.asks_for_soundness(lambda chart: edge_counts(chart if chart is UNSOUND else chart + WITH_KNOT))


if __name__ == "__main__":
    unittest.main()
