"""The module shifts: points [198] to [200]."""

import unittest
from itertools import combinations, permutations

from bentlines.charts import Chart
from bentlines.convex import convex_count
from bentlines.crossings import edge_counts
from bentlines.drawings import Drawing
from bentlines.ends import first_knots, last_knots
from bentlines.errors import BadKind, BadLine, BadNumber, NotReady
from bentlines.hulls import hull
from bentlines.insides import inside_count
from bentlines.links import knots_of
from bentlines.middles import crossing_pairs, degrees
from bentlines.polygons import round_size
from bentlines.shallow import shallow_list
from bentlines.shifts import all_shifts, new_name, point_signs, shifted, shifted_back
from tests.helpers import (NO_INTEGERS, NO_LISTS, UNSOUND, WITH_KNOT, DueCase, drawn_charts, every_drawing,
                           huge_charts, large_charts, large_simple_charts, simple_charts, small_charts,
                           some_drawings)
from tests.test_lastlines import NO_ORDERS, chart_lines


def told_name(knot, line):
    """The new name of a line, by the words of [198]."""
    p, m = min(knot), len(knot)
    return p + m - 1 - (line - p) if line in knot else line


def told_read(chart, row):
    """The points read along a row, by the words of [200]."""
    return Chart(chart.size, [chart.sign((row[i], row[j], row[k])) for i, j, k in combinations(range(chart.size), 3)])


class ShiftTest(DueCase):
    def test_every_small_chart(self):
        """[198] Sound, simple if the chart is, with the knot as a last knot; shifted back it is the chart again."""
        for chart in small_charts() + large_charts() + huge_charts()[::4]:
            for knot in knots_of(chart):
                if knot not in first_knots(chart):
                    self.due(NotReady, {"knot": knot}, shifted, chart, knot[::-1])
                else:
                    made = shifted(chart, list(knot[::-1]))
                    self.assertEqual((True, chart.simple), (made.sound, made.simple))
                    self.assertIn(knot, last_knots(made))
                    self.assertEqual(chart, shifted_back(made, knot))
                if knot not in last_knots(chart):
                    self.due(NotReady, {"knot": knot}, shifted_back, chart, list(knot))
                else:
                    self.assertEqual(chart, shifted(shifted_back(chart, knot), knot))

    def test_signs(self):
        """[198] The sign of the new names in any order is that of the old names in the same order."""
        for chart in [chart for size in (3, 4) for chart in drawn_charts(size)] + drawn_charts(5)[::20]:
            for knot in first_knots(chart):
                made = shifted(chart, knot)
                for names in permutations(range(chart.size), 3):
                    self.assertEqual(chart.sign(names), made.sign([told_name(knot, line) for line in names]))

    def test_what_stays(self):
        """[199] What a shift of a simple chart does not change, and what stays with the lines."""
        for chart in simple_charts(4) + simple_charts(5)[::3] + large_simple_charts()[::2]:
            n = chart.size
            for knot in first_knots(chart):
                made = shifted(chart, knot)
                names = [new_name(n, knot, line) for line in range(n)]
                for call in (shallow_list, convex_count, round_size, told_opposite_counts):
                    self.assertEqual(call(chart), call(made))
                self.assertEqual(sorted(names[x] for x in hull(chart)), list(hull(made)))
                for x in range(n):
                    self.assertEqual(inside_count(chart, x), inside_count(made, names[x]))
                if n % 2 == 0:
                    self.assertEqual(len(crossing_pairs(chart)), len(crossing_pairs(made)))
                    self.assertEqual(list(degrees(chart)), [degrees(made)[names[x]] for x in range(n)])

    def test_refusals(self):
        for call in (shifted, shifted_back):
            self.asks_for_chart(call, None)
            self.asks_for_knot(call)
        self.due(NotReady, {"knot": (0, 3)}, shifted, WITH_KNOT, [3, 0])
        self.due(NotReady, {"knot": (0, 1, 2)}, shifted_back, WITH_KNOT, [2, 0, 1])
        self.assertEqual(((0, 1, 2), (2, 3)), (first_knots(WITH_KNOT)[0], last_knots(WITH_KNOT)[0]))


def told_opposite_counts(chart):
    """x_g + x_(n-g) for each edge g."""
    counts = edge_counts(chart)
    return [counts[g] + counts[chart.size - g] for g in range(1, chart.size)]


class NewNameTest(DueCase):
    def test_every_knot(self):
        """[198] The line p+i gets the name p+m-1-i, the others keep theirs."""
        for size in range(2, 17):
            for p in range(size - 1):
                for m in range(2, size - p + 1):
                    knot = list(range(p, p + m))
                    told = list(range(p)) + knot[::-1] + list(range(p + m, size))
                    self.assertEqual(told, [new_name(size, knot[::-1], line) for line in range(size)])
        self.assertEqual([3, 2, 1], [new_name(5, (2, 1, 3), line) for line in (1, 2, 3)])

    def test_refusals(self):
        for value in (*NO_INTEGERS, 0, -1, 17):
            self.due(BadNumber, {"word": "size"}, new_name, value, None, None)
        for value in (*NO_LISTS, [], [2], (0, 2), [1, 1], [0, 1, 1, 2], (3, 4), [-1, 0], (0, True), ["0", 1],
                      (1.0, 2), [0, 1, 3], (None, 1)):
            self.due(BadKind, {"word": "knot"}, new_name, 4, value, None)
        for value in (*NO_INTEGERS, 4, -1):
            self.due(BadLine, {"line": value}, new_name, 4, [1, 2], value)


class AllShiftsTest(DueCase):
    def test_every_small_drawing(self):
        """[200] The points read along each row; they come by shifts at the knots of the turns, one by one."""
        drawings = [drawing for size in (1, 2, 3, 4) for drawing in every_drawing(size)] + every_drawing(5)[::40]
        for drawing in drawings + some_drawings(8, 3):
            chart, rows = drawing.chart(), list(drawing.rows())
            found = all_shifts(drawing)
            self.assertIsInstance(found, list)
            self.assertEqual([told_read(chart, row) for row in rows], found)
            made = chart
            for row, knot, behind in zip(rows, drawing.knots(), found[1:]):
                # The lines of the turn have the names of their stands by then.
                made = shifted(made, tuple(row.index(line) for line in knot))
                self.assertEqual(behind, made)
            self.assertEqual((chart, chart.mirrored().contrary()), (found[0], found[-1]))

    def test_huge_drawings(self):
        for drawing in some_drawings(16, 1) + [Drawing.of(Chart.fan(12))]:
            found = all_shifts(drawing)
            self.assertEqual(len(drawing) + 1, len(found))
            self.assertEqual(drawing.chart().mirrored().contrary(), found[-1])

    def test_refusals(self):
        for value in (None, Chart.fan(3), [(0, 2)], 3):
            self.due(BadKind, {"word": "drawing"}, all_shifts, value)


class PointSignsTest(DueCase):
    def test_every_order(self):
        """[200] The signs of the names in the order in which they stand."""
        for chart in [chart for size in (1, 2, 3, 4) for chart in drawn_charts(size)] + drawn_charts(5)[::40]:
            for names in permutations(range(chart.size)):
                found = point_signs(chart, list(names))
                self.assertIsInstance(found, tuple)
                self.assertEqual(told_read(chart, names).signs, found)

    def test_refusals(self):
        self.asks_for_chart(point_signs, None)
        for value in NO_ORDERS:
            self.due(BadKind, {"word": "names"}, point_signs, UNSOUND, value)
        self.asks_for_soundness(lambda chart: point_signs(chart, chart_lines(chart)[::-1]))

    def test_arguments_stay(self):
        names, knot = [2, 0, 1], [1, 0]
        point_signs(Chart.fan(3), names)
        shifted(Chart.fan(3), knot)
        new_name(3, knot, 2)
        self.assertEqual(([2, 0, 1], [1, 0]), (names, knot))


if __name__ == "__main__":
    unittest.main()
