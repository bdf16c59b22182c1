"""The module drawn: points [20] to [26], so far as they speak of it."""

import unittest
from itertools import permutations

from bentlines.charts import Chart
from bentlines.drawings import Drawing
from bentlines.drawn import count_rows, drawing_along, normal_order, row_after
from bentlines.errors import BadKind, NotReady, TooMany, Unsound
from bentlines.links import is_closed, knots_of
from tests.helpers import (NO_KNOTS, NO_LISTS, UNSOUND, WITH_KNOT, DueCase, drawn_charts, every_drawing, every_lot,
                           large_charts, small_charts, some_drawings, told_before, told_knots, told_row)

# All knots of WITH_KNOT, in their only order.
ORDER = [(0, 1, 2), (0, 3), (1, 3), (2, 3)]
# Charts of 13 lines with just 4000 and 4001 closed lots, found by negating signs of a chart with nearly as many.
JUST_4000 = ("--------------++-------++++-0--++++-+++++++++------------------++-000+++++++00+++++++0++++++++++++++"
             "----------------+-++-00+++++++0++++++++++++++------------------++-0++++++++++++++------------------+"
             "+-+++++++------------------++-------------------++-----------+-++-00++0+++++0++++-++--")
JUST_4001 = ("-----------------------++++-0--++++-+++++++++------------------++-000+++++++00+++++++0++++++++++++++"
             "----------------++++-00+++++++0++++++++++++++----------------+-++-0++++++++++++++------------------+"
             "+-+++++++------------------++-------------------++-----------++++-00++0++++00++++-++--")


def told_normal_order(chart):
    """The normal order by the words of [26]: always that ready knot whose lines stand uppermost."""
    before = told_before(chart)
    done = []
    while len(done) < len(before):
        row = told_row(chart, done)
        free = [knot for knot in before if knot not in done and before[knot] <= set(done)]
        done.append(min(free, key=lambda knot: min(row.index(line) for line in knot)))
    return tuple(done)


class DrawingAlongTest(DueCase):
    def test_every_drawing_along_its_knots(self):
        """[22] [23] For each order there is just one drawing, the one that turns the knots so."""
        drawings = [drawing for size in (1, 2, 3, 4, 5) for drawing in every_drawing(size)]
        for drawing in drawings + some_drawings(8, 5) + some_drawings(16, 3):
            chart = drawing.chart()
            self.assertEqual(drawing, drawing_along(chart, drawing.knots()))
            self.assertEqual(drawing, drawing_along(chart, [list(knot[::-1]) for knot in drawing.knots()]))

    def test_every_sequence_of_four_lines(self):
        """[23] What is no order is told with the first knot that is not ready."""
        for chart in drawn_charts(3) + [WITH_KNOT, Chart.told(4, "+++0"), Chart.fan(4), Chart.told(4, "--++")]:
            before = told_before(chart)
            for order in permutations(before):
                wrong = [knot for at, knot in enumerate(order) if not before[knot] <= set(order[:at])]
                if wrong:
                    self.due(NotReady, {"knot": wrong[0]}, drawing_along, chart, order)
                else:
                    made = drawing_along(chart, order)
                    self.assertEqual((order, chart), (made.knots(), made.chart()))

    def test_small_charts(self):
        self.assertEqual(Drawing(1, []), drawing_along(Chart.fan(1), []))
        self.assertEqual(Drawing(2, [(0, 2)]), drawing_along(Chart.fan(2), ((1, 0),)))
        self.assertEqual(Drawing(5, [(0, 5)]), drawing_along(Chart(5, [0] * 10), [[4, 3, 2, 1, 0]]))
        self.assertEqual(((0, 3), (2, 2), (1, 2), (0, 2)), drawing_along(WITH_KNOT, ORDER).turns)

    def test_not_all_knots_each_once(self):
        """Behind the errors of all entries, and ahead of what is not ready."""
        for knots in ([], ORDER[:3], ORDER[1:], ORDER + [(0, 3)], ORDER[:3] + [(3, 1)], ORDER[:2] * 2, ORDER[:0:-1]):
            self.due(BadKind, {"word": "knots"}, drawing_along, WITH_KNOT, knots)
        self.due(BadKind, {"word": "knots"}, drawing_along, Chart.fan(2), [])
        self.due(BadKind, {"word": "knot"}, drawing_along, Chart.fan(1), [(0, 0)])

    def test_refusals(self):
        self.asks_for_chart(drawing_along, None)
        for value in NO_LISTS:
            self.due(BadKind, {"word": "knots"}, drawing_along, UNSOUND, value)
        self.asks_for_soundness(drawing_along, [None])
        for value in NO_KNOTS:
            self.due(BadKind, {"word": "knot"}, drawing_along, WITH_KNOT, [(2, 3), (2, 3), value])
        self.due(NotReady, {"knot": (1, 3)}, drawing_along, WITH_KNOT, [(0, 1, 2), (1, 3), (2, 3), (0, 3)])

    def test_arguments_stay(self):
        knots = [[2, 1, 0], [3, 0], [3, 1], [3, 2]]
        drawing_along(WITH_KNOT, knots)
        row_after(WITH_KNOT, knots[1::-1])
        self.assertEqual([[2, 1, 0], [3, 0], [3, 1], [3, 2]], knots)


class NormalOrderTest(DueCase):
    def test_uppermost_first(self):
        """[26] Each turn of the normal drawing is of that ready knot whose lines stand uppermost."""
        for chart in small_charts() + large_charts():
            self.assertEqual(told_normal_order(chart), normal_order(chart))
            self.assertEqual(normal_order(chart), Drawing.of(chart).knots())
            self.assertEqual(Drawing.of(chart), drawing_along(chart, normal_order(chart)))

    def test_known_orders(self):
        self.assertEqual((), normal_order(Chart.fan(1)))
        self.assertEqual(tuple(ORDER), normal_order(WITH_KNOT))
        self.assertEqual(((0, 1), (0, 2), (1, 2), (0, 3), (1, 3), (2, 3)), normal_order(Chart.fan(4)))

    def test_refusals(self):
        self.asks_for_chart(normal_order)
        self.asks_for_soundness(normal_order)


class RowAfterTest(DueCase):
    def test_every_lot_of_four_lines(self):
        """[24] The row behind a closed lot; the knot that is not ready, if the lot is not closed."""
        for chart in drawn_charts(3) + drawn_charts(4):
            before = told_before(chart)
            for lot in every_lot(told_knots(chart)):
                wrong = [knot for knot in lot if not before[knot] <= set(lot)]
                if wrong:
                    self.due(NotReady, {"knot": wrong[0]}, row_after, chart, lot[::-1])
                else:
                    self.assertEqual(told_row(chart, lot), row_after(chart, lot[::-1]))
                    self.assertEqual(told_row(chart, lot), row_after(chart, [list(knot[::-1]) for knot in lot]))

    def test_rows_of_drawings(self):
        """[24] Each drawing that turns first the knots of the lot has this row behind them."""
        for drawing in every_drawing(4) + some_drawings(7, 4) + some_drawings(16, 2):
            chart = drawing.chart()
            knots = drawing.knots()
            for many, row in enumerate(drawing.rows()):
                self.assertEqual(row, row_after(chart, knots[:many]))

    def test_ends(self):
        for chart in (Chart.fan(1), Chart.fan(2), WITH_KNOT, Chart.fan(16)):
            lines = tuple(range(chart.size))
            self.assertEqual(lines, row_after(chart, []))
            self.assertEqual(lines[::-1], row_after(chart, knots_of(chart)))

    def test_refusals(self):
        self.asks_for_chart(row_after, None)
        for value in NO_LISTS:
            self.due(BadKind, {"word": "knots"}, row_after, UNSOUND, value)
        self.asks_for_soundness(row_after, [None, None])
        for value in NO_KNOTS:
            self.due(BadKind, {"word": "knot"}, row_after, WITH_KNOT, [(2, 3), value, (2, 3)])
        self.due(BadKind, {"word": "knots"}, row_after, WITH_KNOT, [(2, 3), (3, 2), None])
        self.due(NotReady, {"knot": (0, 3)}, row_after, Chart.fan(4), [(2, 3), (0, 1), (0, 3)])
        # On line 3 of the contrary fan 2 is met first: (0, 3) has its neighbour (1, 3), but not (2, 3) before that.
        self.due(NotReady, {"knot": (0, 3)}, row_after, -Chart.fan(4), [(1, 3), (0, 3)])


class CountRowsTest(DueCase):
    def test_rows_of_all_drawings(self):
        """[24] There are as many closed lots as rows of drawings with the chart."""
        for size in (1, 2, 3, 4, 5):
            rows = {}
            for drawing in every_drawing(size):
                rows.setdefault(drawing.chart().marks, set()).update(drawing.rows())
            for marks, found in rows.items():
                self.assertEqual(len(found), count_rows(Chart.told(size, marks)))

    def test_closed_lots(self):
        for chart in drawn_charts(4):
            lots = [lot for lot in every_lot(knots_of(chart)) if is_closed(chart, lot)]
            self.assertEqual(len(lots), count_rows(chart))

    def test_fans(self):
        """[24] The fan of n lines has 2 ** (n-1) closed lots; more than 4000 are not counted."""
        for size in range(1, 13):
            self.assertEqual(2 ** (size - 1), count_rows(Chart.fan(size)))
            self.assertEqual(2 ** (size - 1), count_rows(-Chart.fan(size)))
        self.assertEqual(4000, count_rows(Chart.told(13, JUST_4000)))
        self.due(TooMany, {"word": "rows"}, count_rows, Chart.told(13, JUST_4001))
        for size in (13, 14, 16):
            self.due(TooMany, {"word": "rows"}, count_rows, Chart.fan(size))

    def test_all_lines_in_one_knot(self):
        self.assertEqual(2, count_rows(Chart(16, [0] * 560)))

    def test_refusals(self):
        self.asks_for_chart(count_rows)
        self.asks_for_soundness(count_rows)
        self.due(TooMany, {"word": "rows"}, count_rows, Chart.fan(8) + Chart.fan(8))
        # Unsound comes ahead of the bound, which is only found by counting.
        self.due(Unsound, {"four": (12, 13, 14, 15)}, count_rows, Chart.fan(12) + UNSOUND)


if __name__ == "__main__":
    unittest.main()
