"""The module counters: points [66] and [67]."""

import unittest

from bentlines.charts import Chart
from bentlines.counters import Watch, best_row, gains
from bentlines.doors import Weight
from bentlines.drawings import Drawing
from bentlines.errors import BadKind, BadLine
from bentlines.lefts import left_knots, right_knots
from bentlines.links import knots_of
from bentlines.places import all_places, is_place
from tests.helpers import (NO_CHARTS, NO_INTEGERS, NO_KNOTS, NO_LISTS, WITH_KNOT, DueCase, every_drawing, every_lot,
                           few_charts, large_charts, some_drawings)

# Values that are no drawing.
NO_DRAWINGS = (*NO_CHARTS, Chart.fan(3), ((0, 2),))


def told_tallies(row, lot):
    """How many lines of the lot are among the g highest, for each edge, by the words of [66]."""
    return tuple(len(set(row[:g]) & set(lot)) for g in range(1, len(row)))


def few_drawings():
    return [drawing for size in (1, 2, 3, 4) for drawing in every_drawing(size)] + some_drawings(5, 4)


class WatchTest(DueCase):
    def test_every_small_drawing(self):
        """[66] The tallies of each row of the drawing."""
        for drawing in few_drawings():
            for lot in every_lot(range(drawing.size)):
                watch = Watch(lot[::-1])
                self.assertEqual(lot, watch.lot)
                self.assertEqual([told_tallies(row, lot) for row in drawing.rows()], watch(drawing))

    def test_one_lot_for_many_drawings(self):
        lot = [7, 3]
        watch = Watch(lot)
        lot.append(0)
        for drawing in some_drawings(8, 2) + some_drawings(16, 2):
            found = watch(drawing)
            self.assertEqual([told_tallies(row, (3, 7)) for row in drawing.rows()], found)
            found.append(None)
            self.assertEqual(len(drawing) + 1, len(watch(drawing)))
        self.assertEqual([()], Watch([0])(Drawing(1, [])))
        self.assertEqual([(1,), (0,)], Watch([0])(Drawing(2, [(0, 2)])))

    def test_refusals(self):
        for value in NO_LISTS:
            self.due(BadKind, {"word": "lot"}, Watch, value)
        for value in (*NO_INTEGERS, 16, -1):
            self.due(BadLine, {"line": value}, Watch, (3, value, 3))
        self.due(BadLine, {"line": 3}, Watch, [3, 3])
        watch = Watch([9, 2, 7, 3])
        for value in NO_DRAWINGS:
            self.due(BadKind, {"word": "drawing"}, watch, value)
        self.due(BadLine, {"line": 3}, watch, Drawing.of(Chart.fan(3)))
        self.due(BadLine, {"line": 2}, watch, Drawing(1, []))
        self.due(BadLine, {"line": 9}, watch, Drawing.of(Chart.fan(9)))


class GainsTest(DueCase):
    def test_every_small_drawing(self):
        """[66] By how much the tallies grow at each turn."""
        for drawing in few_drawings() + some_drawings(7, 1):
            chart, rows = drawing.chart(), list(drawing.rows())
            for lot in every_lot(range(drawing.size)):
                for at, knot in enumerate(drawing.knots()):
                    old, new = told_tallies(rows[at], lot), told_tallies(rows[at + 1], lot)
                    self.assertEqual(tuple(b - a for a, b in zip(old, new)), gains(chart, lot[::-1], knot[::-1]))

    def test_places(self):
        """[66] For a place, a left knot gains what it weighs, a right one loses it, one abreast neither."""
        for chart in few_charts() + large_charts()[:1]:
            for place in all_places(chart):
                left, right, told = left_knots(chart, place), right_knots(chart, place), Weight(place)
                for knot in knots_of(chart):
                    sign = (knot in left) - (knot in right)
                    self.assertEqual(tuple(sign * told(chart, knot, edge) for edge in range(1, chart.size)),
                                     gains(chart, place, list(knot)))

    def test_known_charts(self):
        self.assertEqual((1,), gains(Chart.fan(2), [1], (0, 1)))
        self.assertEqual((0,), gains(Chart.fan(2), (), (0, 1)))
        self.assertEqual((1, 2, 2, 1), gains(Chart(5, [0] * 10), (3, 4), (4, 3, 2, 1, 0)))
        self.assertEqual((1, 0, 0, 1), gains(Chart(5, [0] * 10), (1, 4), [0, 1, 2, 3, 4]))

    def test_refusals(self):
        self.asks_for_chart(gains, None, None)
        self.asks_for_lot(gains, None)
        self.asks_for_soundness(gains, (0, 2), None)
        for value in NO_KNOTS:
            self.due(BadKind, {"word": "knot"}, gains, WITH_KNOT, [0, 2], value)


class BestRowTest(DueCase):
    def test_every_small_drawing(self):
        """[67] The first row in which least is missing; nothing is missing somewhere exactly for places."""
        for drawing in few_drawings() + some_drawings(8, 1):
            chart = drawing.chart()
            for lot in every_lot(range(drawing.size)):
                lacks = [sum(min(len(lot), g) - tally for g, tally in enumerate(told_tallies(row, lot), 1))
                         for row in drawing.rows()]
                found = best_row(drawing, lot[::-1])
                self.assertEqual((lacks.index(min(lacks)), min(lacks)), found)
                self.assertIs(is_place(chart, lot), found[1] == 0)

    def test_known_drawings(self):
        self.assertEqual(((0, 0), (0, 0)), (best_row(Drawing(1, []), ()), best_row(Drawing(1, []), [0])))
        self.assertEqual((1, 0), best_row(Drawing(2, [(0, 2)]), [1]))
        self.assertEqual((0, 2), best_row(Drawing(5, [(0, 5)]), [2]))

    def test_refusals(self):
        for value in NO_DRAWINGS:
            self.due(BadKind, {"word": "drawing"}, best_row, value, None)
        drawing = Drawing.of(Chart.fan(4))
        for value in NO_LISTS:
            self.due(BadKind, {"word": "lot"}, best_row, drawing, value)
        for value in (*NO_INTEGERS, 4, -1):
            self.due(BadLine, {"line": value}, best_row, drawing, [2, value, 2])
        self.due(BadLine, {"line": 1}, best_row, drawing, (1, 1))


if __name__ == "__main__":
    unittest.main()
