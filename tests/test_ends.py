"""The module ends: point [41]."""

import unittest

from bentlines.charts import Chart
from bentlines.ends import first_knots, first_on, last_knots, last_on
from tests.helpers import (WITH_KNOT, DueCase, every_drawing, huge_charts, large_charts, small_charts, some_drawings,
                           told_knots)


class EndsTest(DueCase):
    def test_drawings(self):
        """[41] The first turns of the drawings are of just the first knots, the last turns of the last ones."""
        for size in (2, 3, 4, 5):
            ends = {}
            for drawing in every_drawing(size):
                first, last = ends.setdefault(drawing.chart().marks, (set(), set()))
                first.add(drawing.knots()[0])
                last.add(drawing.knots()[-1])
            for marks, (first, last) in ends.items():
                chart = Chart.told(size, marks)
                self.assertEqual(tuple(sorted(first)), first_knots(chart))
                self.assertEqual(tuple(sorted(last)), last_knots(chart))

    def test_lines_of_drawings(self):
        """The knot that a line meets first, and last, is that of its first, and last, turn."""
        drawings = [drawing for size in (2, 3, 4) for drawing in every_drawing(size)]
        for drawing in drawings + some_drawings(9, 4) + some_drawings(16, 2):
            chart = drawing.chart()
            for line in range(drawing.size):
                way = [knot for knot in drawing.knots() if line in knot]
                self.assertEqual((way[0], way[-1]), (first_on(chart, line), last_on(chart, line)))

    def test_words(self):
        """[41] A first knot is one that each of its lines meets first, a last knot one that each meets last."""
        for chart in small_charts() + large_charts():
            knots = told_knots(chart)
            first = [knot for knot in knots if all(first_on(chart, line) == knot for line in knot)]
            last = [knot for knot in knots if all(last_on(chart, line) == knot for line in knot)]
            self.assertEqual((tuple(first), tuple(last)), (first_knots(chart), last_knots(chart)))

    def test_neighbours_and_mirrored(self):
        """[41] Neighbours by name; some first and some last knot; those of the mirrored chart."""
        for chart in small_charts() + large_charts() + huge_charts():
            found = first_knots(chart) + last_knots(chart)
            for knot in found:
                self.assertEqual(tuple(range(knot[0], knot[-1] + 1)), knot)
            if chart.size > 1:
                self.assertTrue(first_knots(chart) and last_knots(chart))
            renamed = [tuple(sorted(chart.size - 1 - line for line in knot)) for knot in last_knots(chart)]
            self.assertEqual(tuple(sorted(renamed)), first_knots(~chart))

    def test_one_and_two_lines(self):
        one, two = Chart.fan(1), Chart.fan(2)
        self.assertEqual((None, None, (), ()), (first_on(one, 0), last_on(one, 0), first_knots(one), last_knots(one)))
        for line in (0, 1):
            self.assertEqual(((0, 1), (0, 1)), (first_on(two, line), last_on(two, line)))
        self.assertEqual((((0, 1),), ((0, 1),)), (first_knots(two), last_knots(two)))

    def test_known_ends(self):
        self.assertEqual((((0, 1, 2),), ((2, 3),)), (first_knots(WITH_KNOT), last_knots(WITH_KNOT)))
        self.assertEqual(((0, 1, 2), (0, 3)), (first_on(WITH_KNOT, 0), last_on(WITH_KNOT, 0)))
        flat = Chart(16, [0] * 560)
        self.assertEqual(((tuple(range(16)),), (tuple(range(16)),)), (first_knots(flat), last_knots(flat)))

    def test_refusals(self):
        for call in (first_on, last_on):
            self.asks_for_chart(call, None)
            self.asks_for_line(call)
            self.asks_for_soundness(call, 0)
        for call in (first_knots, last_knots):
            self.asks_for_chart(call)
            self.asks_for_soundness(call)


if __name__ == "__main__":
    unittest.main()
