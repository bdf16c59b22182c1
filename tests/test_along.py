"""The module along: points [71] and [72]."""

import unittest

from bentlines.along import along, level_line, told_along
from bentlines.charts import Chart
from bentlines.crossings import edge_counts
from bentlines.errors import BadLine, BadNumber
from tests.helpers import (NO_INTEGERS, UNSOUND, DueCase, every_drawing, huge_simple_charts, large_simple_charts,
                           small_simple_charts, some_drawings, told_above, told_meeting)


def few_edges():
    """Simple charts with each of their lines and edges."""
    charts = small_simple_charts() + large_simple_charts()[::3]
    return [(chart, line, edge) for chart in charts for line in range(chart.size) for edge in range(1, chart.size)]


class AlongTest(DueCase):
    def test_every_small_chart(self):
        """[71] The meetings over the edge in the order met; down if the other line is greater, else up."""
        for chart, line, edge in few_edges():
            told = tuple((other, 1 if other > line else -1) for other in told_meeting(chart, line)
                         if len(told_above(chart, line, other)) + 1 == edge)
            self.assertEqual(told, along(chart, line, edge))

    def test_by_turns(self):
        """[71] Down and up by turns, and how many more downs there are."""
        charts = huge_simple_charts()[::2]
        huge = [(chart, line, edge) for chart in charts for line in (0, 7, chart.size - 1)
                for edge in (1, 6, chart.size - 1)]
        for chart, line, edge in few_edges() + huge:
            ways = [way for _, way in along(chart, line, edge)]
            self.assertTrue(all(first == -second for first, second in zip(ways, ways[1:])))
            self.assertEqual(sum(ways), told_along(chart.size, line, edge))

    def test_known_charts(self):
        self.assertEqual(((1, 1),), along(Chart.fan(2), 0, 1))
        self.assertEqual(((0, -1),), along(Chart.fan(2), 1, 1))
        self.assertEqual(tuple(((edge, 1),) for edge in range(1, 16)),
                         tuple(along(Chart.fan(16), 0, edge) for edge in range(1, 16)))
        self.assertEqual(((2, 1), (0, -1)), along(Chart.told(3, "-"), 1, 2))

    def test_refusals(self):
        self.asks_for_chart(along, None, None)
        for value in (*NO_INTEGERS, 4, -1):
            self.due(BadLine, {"line": value}, along, UNSOUND, value, None)
        self.asks_for_edge(along, 3)
        self.asks_for_simplicity(along, 0, 1)
        self.due(BadNumber, {"word": "edge"}, along, Chart.fan(1), 0, 1)


class ToldAlongTest(DueCase):
    def test_all_sizes(self):
        for size in (2, 3, 4, 7, 16):
            for line in range(size):
                for edge in range(1, size):
                    told = (1 if line < edge else 0) - (1 if size - 1 - line < edge else 0)
                    self.assertEqual(told, told_along(size, line, edge))

    def test_refusals(self):
        for value in (*NO_INTEGERS, 0, -1, 17):
            self.due(BadNumber, {"word": "size"}, told_along, value, None, None)
        for value in (*NO_INTEGERS, 5, -1):
            self.due(BadLine, {"line": value}, told_along, 5, value, None)
        for value in (*NO_INTEGERS, 0, 5, -1):
            self.due(BadNumber, {"word": "edge"}, told_along, 5, 2, value)
        self.due(BadNumber, {"word": "edge"}, told_along, 1, 0, 1)


class LevelLineTest(DueCase):
    def test_every_drawing(self):
        """[72] The lines at a stand are the same for all drawings with the chart."""
        drawings = [drawing for size in (1, 2, 3, 4) for drawing in every_drawing(size)] + every_drawing(5)[::7]
        for drawing in drawings + some_drawings(8, 5) + some_drawings(16, 3):
            rows = list(drawing.rows())
            for level in range(drawing.size):
                stood = [row[level] for row in rows]
                told = tuple(line for at, line in enumerate(stood) if at == 0 or stood[at - 1] != line)
                found = level_line(drawing.chart(), level)
                self.assertEqual(told, found)
                self.assertEqual((level, drawing.size - 1 - level), (found[0], found[-1]))

    def test_simple_charts(self):
        """[72] How many there are."""
        for chart in small_simple_charts() + large_simple_charts() + huge_simple_charts()[:3]:
            counts = (*edge_counts(chart), 0)
            self.assertEqual(tuple(1 + counts[p] + counts[p + 1] for p in range(chart.size)),
                             tuple(len(level_line(chart, p)) for p in range(chart.size)))

    def test_known_charts(self):
        self.assertEqual((0,), level_line(Chart.fan(1), 0))
        self.assertEqual(((0, 1), (1, 0)), (level_line(Chart.fan(2), 0), level_line(Chart.fan(2), 1)))
        self.assertEqual(((1, 3), (2,)), (level_line(Chart(5, [0] * 10), 1), level_line(Chart(5, [0] * 10), 2)))

    def test_refusals(self):
        self.asks_for_chart(level_line, None)
        for value in (*NO_INTEGERS, 4, -1):
            self.due(BadNumber, {"word": "level"}, level_line, UNSOUND, value)
        self.asks_for_soundness(level_line, 3)


if __name__ == "__main__":
    unittest.main()
