"""The module scattered: points [166], [167], [170] and [173], so far as they speak of it and of chains and knots."""

import unittest
from itertools import combinations

from bentlines.charts import Chart
from bentlines.crossings import side_of
from bentlines.errors import BadLine, BadNumber
from bentlines.links import knot_of, knots_of
from bentlines.loose import loosenings, whole_loosened
from bentlines.places import all_places
from bentlines.scattered import is_near_point, is_scattered, knot_sizes, near_point, plain_knots
from bentlines.steps import longest_chain
from bentlines.ties import tied
from bentlines.triangles import triangles
from tests.helpers import (NO_INTEGERS, WITH_KNOT, DueCase, built_charts, huge_charts, large_charts,
                           large_simple_charts, simple_charts, small_charts, told_knots)


def told_scattered(chart):
    """Three lines or more that are not all in one knot."""
    return chart.size >= 3 and tuple(range(chart.size)) not in told_knots(chart)


def told_near(chart):
    """Some n-1 lines, and not the other one, are a knot."""
    knots = told_knots(chart)
    return chart.size >= 3 and any(lot in knots for lot in combinations(range(chart.size), chart.size - 1))


def scattered_charts():
    return [chart for chart in small_charts() + large_charts() if told_scattered(chart)]


class ScatteredTest(DueCase):
    def test_every_small_chart(self):
        """[166] Scattered charts, those near a point, and plain knots."""
        for chart in small_charts() + large_charts():
            knots = told_knots(chart)
            self.assertIs(told_scattered(chart), is_scattered(chart))
            self.assertIs(told_near(chart), is_near_point(chart))
            self.assertTrue(is_scattered(chart) or not is_near_point(chart))
            self.assertEqual(tuple(sorted(map(len, knots))), knot_sizes(chart))
            self.assertEqual(tuple(knot for knot in knots if len(knot) == 2), plain_knots(chart))

    def test_few_lines(self):
        """[166] Fewer than three lines are not scattered, three lines are near a point if they are scattered."""
        for chart in (Chart.fan(1), Chart.fan(2), Chart.told(3, "0")):
            self.assertEqual((False, False), (is_scattered(chart), is_near_point(chart)))
        for marks in "+-":
            self.assertEqual((True, True), (is_scattered(Chart.told(3, marks)), is_near_point(Chart.told(3, marks))))
        self.assertEqual(((), (), (2,), ((0, 1),)), (knot_sizes(Chart.fan(1)), plain_knots(Chart.fan(1)),
                                                     knot_sizes(Chart.fan(2)), plain_knots(Chart.fan(2))))

    def test_numbers_of_knots(self):
        """[170] At least n knots, just n near a point; each line is in two knots at least."""
        for chart in scattered_charts():
            knots = told_knots(chart)
            self.assertGreaterEqual(len(knots), chart.size)
            self.assertIs(len(knots) == chart.size, is_near_point(chart))
            for x in range(chart.size):
                self.assertGreaterEqual(len([knot for knot in knots if x in knot]), 2)
                for knot in knots:
                    if x not in knot:
                        self.assertEqual(len(knot), len({knot_of(chart, (x, y)) for y in knot}))

    def test_charts_made_of_it(self):
        """[173] Contrary, mirrored and rolled: as many knots of each number of lines."""
        for chart in small_charts() + huge_charts()[::3]:
            for other in (-chart, ~chart, chart >> 1, chart >> 3, chart << 2):
                self.assertEqual((knot_sizes(chart), is_scattered(chart), is_near_point(chart)),
                                 (knot_sizes(other), is_scattered(other), is_near_point(other)))

    def test_tied_triangles(self):
        """[173] Three plain knots become one of three lines, and there is one place fewer."""
        for chart in simple_charts(4) + simple_charts(5) + large_simple_charts()[::3]:
            for three in triangles(chart):
                made = tied(chart, three)
                told = sorted([*knot_sizes(chart)[3:], 3])
                self.assertEqual(told, list(knot_sizes(made)))
                self.assertEqual(len(list(all_places(chart))) - 1, len(list(all_places(made))))

    def test_refusals(self):
        for call in (is_scattered, is_near_point, knot_sizes, plain_knots):
            self.asks_for_chart(call)
            self.asks_for_soundness(call)


class BuiltTest(DueCase):
    def test_built_charts(self):
        """[166] [170] Bricks, stairs, the fan, charts told by the middle: scattered, with more knots than lines."""
        for chart in built_charts():
            knots = knots_of(chart)
            self.assertEqual((True, False), (is_scattered(chart), is_near_point(chart)))
            self.assertEqual(tuple(sorted(map(len, knots))), knot_sizes(chart))
            self.assertEqual(tuple(knot for knot in knots if len(knot) == 2), plain_knots(chart))
            self.assertGreater(len(knots), chart.size)


class NearPointTest(DueCase):
    def test_every_size(self):
        """[166] All lines but one in a knot, the line above it or below it."""
        for size in range(3, 17):
            for line in range(0, size, 1 if size < 7 else 5):
                for after in (1, -1):
                    chart = near_point(size, line, after)
                    rest = tuple(x for x in range(size) if x != line)
                    for three in combinations(range(size), 3):
                        told = 0 if line not in three else after if three[1] == line else -after
                        self.assertEqual(told, chart.sign(three))
                    self.assertEqual((True, True, True), (chart.sound, is_scattered(chart), is_near_point(chart)))
                    self.assertEqual(rest, knot_of(chart, rest[:2]))
                    self.assertEqual((2,) * (size - 1) + (size - 1,) if size > 3 else (2, 2, 2), knot_sizes(chart))
                    self.assertEqual(after, side_of(chart, rest[:2], line))

    def test_refusals(self):
        for value in (*NO_INTEGERS, -1, 0, 1, 2, 17):
            self.due(BadNumber, {"word": "size"}, near_point, value, None, None)
        for value in (*NO_INTEGERS, -1, 5):
            self.due(BadLine, {"line": value}, near_point, 5, value, None)
        for value in (*NO_INTEGERS, 0, 2, -2):
            self.due(BadNumber, {"word": "after"}, near_point, 5, 4, value)


class ChainTest(DueCase):
    def test_scattered_charts(self):
        """[167] A chain of at least 2*(n // 2) knots."""
        for chart in scattered_charts() + [chart for chart in huge_charts() if is_scattered(chart)]:
            self.assertGreaterEqual(len(longest_chain(chart)), 2 * (chart.size // 2))
        self.assertEqual(1, len(longest_chain(Chart(16, [0] * 560))))

    def test_fans(self):
        """[167] The longest chain of the fan of n >= 2 lines has 2n-3 knots."""
        self.assertEqual([2 * n - 3 for n in range(2, 17)], [len(longest_chain(Chart.fan(n))) for n in range(2, 17)])

    def test_loosened_charts(self):
        """[167] When a knot is loosened, the longest chain does not become shorter."""
        for chart in small_charts():
            for made in list(loosenings(chart))[::3]:
                self.assertGreaterEqual(len(longest_chain(made)), len(longest_chain(chart)))
        for chart in large_charts() + huge_charts():
            self.assertGreaterEqual(len(longest_chain(whole_loosened(chart, -1))), len(longest_chain(chart)))
        self.assertEqual((4, 5), (len(longest_chain(WITH_KNOT)), len(longest_chain(whole_loosened(WITH_KNOT, 1)))))


if __name__ == "__main__":
    unittest.main()
