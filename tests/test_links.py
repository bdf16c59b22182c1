"""The module links: points [19] to [25]."""

import unittest
from itertools import combinations, permutations
from math import comb

from bentlines.charts import Chart
from bentlines.errors import BadKind, BadLine, NotReady, Unsound
from bentlines.links import ahead_of, closed, is_closed, is_order, knot_of, knots_of, linked, ready, ring_of_links
from tests.helpers import (NO_CHARTS, NO_INTEGERS, NO_KNOTS, NO_LISTS, UNSOUND, WITH_KNOT, DueCase, every_chart,
                           every_drawing, every_lot, every_sound_chart, small_charts, some_charts, some_drawings,
                           told_before, told_knots, told_linked, told_row)


def sound_charts():
    return small_charts() + [drawing.chart() for size in (6, 7) for drawing in some_drawings(size, 5)]


def larger_charts():
    drawings = [drawing for size in (9, 12, 16) for drawing in some_drawings(size, 4)]
    return [drawing.chart() for drawing in drawings] + [Chart.fan(16)]


class KnotsTest(DueCase):
    def test_knots(self):
        """[19] The knots are the largest lots all of whose threes have the sign 0."""
        for chart in sound_charts():
            knots = knots_of(chart)
            self.assertIsInstance(knots, tuple)
            self.assertEqual(told_knots(chart), list(knots))
            for pair in combinations(range(chart.size), 2):
                through = [knot for knot in knots if set(pair) <= set(knot)]
                self.assertEqual(through, [knot_of(chart, pair)])
                self.assertEqual(through, [knot_of(chart, list(pair[::-1]))])

    def test_small_charts(self):
        self.assertEqual((), knots_of(Chart.fan(1)))
        self.assertEqual(((0, 1),), knots_of(Chart.fan(2)))
        self.assertEqual((0, 1), knot_of(Chart.fan(2), [1, 0]))
        self.assertEqual(((0, 1, 2), (0, 3), (1, 3), (2, 3)), knots_of(WITH_KNOT))
        self.assertEqual((0, 1, 2), knot_of(WITH_KNOT, (2, 1)))
        self.assertEqual((tuple(range(16)),), knots_of(Chart(16, [0] * 560)))

    def test_sums(self):
        """[19] The sums of choose(m, 2) and choose(m, 3), and at most one line in common."""
        for chart in sound_charts() + larger_charts():
            knots = knots_of(chart)
            self.assertEqual(comb(chart.size, 2), sum(comb(len(knot), 2) for knot in knots))
            self.assertEqual(chart.signs.count(0), sum(comb(len(knot), 3) for knot in knots))
            self.assertEqual(list(knots), sorted(tuple(sorted(knot)) for knot in knots))
            for knot, other in combinations(knots, 2):
                self.assertLessEqual(len(set(knot) & set(other)), 1)

    def test_refusals(self):
        for value in NO_CHARTS:
            self.due(BadKind, {"word": "chart"}, knot_of, value, None)
            self.due(BadKind, {"word": "chart"}, knots_of, value)
        for value in (*NO_LISTS, [], [0], (0, 1, 2)):
            self.due(BadKind, {"word": "pair"}, knot_of, UNSOUND, value)
        for value in (*NO_INTEGERS, 4, -1):
            self.due(BadLine, {"line": value}, knot_of, UNSOUND, (value, 9))
        self.due(BadLine, {"line": 2}, knot_of, UNSOUND, (2, 2))
        self.due(BadLine, {"line": 0}, knot_of, Chart.fan(1), (0, 0))
        self.due(Unsound, {"four": (0, 1, 2, 3)}, knot_of, UNSOUND, (0, 1))
        self.due(Unsound, {"four": (0, 1, 2, 3)}, knots_of, UNSOUND)
        self.due(Unsound, {"four": (1, 2, 3, 4)}, knots_of, Chart.fan(1) + UNSOUND)


class LinksTest(DueCase):
    def test_linked(self):
        """[20] A knot is linked to another one that a common line meets later."""
        for chart in sound_charts():
            knots = knots_of(chart)
            for knot in knots:
                told = [other for other in knots if told_linked(chart, other, knot)]
                self.assertEqual(tuple(told), ahead_of(chart, knot))
                self.assertEqual(tuple(told), ahead_of(chart, list(knot[::-1])))
                for other in knots:
                    self.assertIs(other in told, linked(chart, other, knot))
                    self.assertIs(other in told, linked(chart, list(other[::-1]), list(knot[::-1])))

    def test_known_links(self):
        self.assertIs(True, linked(WITH_KNOT, (0, 1, 2), [3, 0]))
        self.assertIs(False, linked(WITH_KNOT, (0, 3), (0, 1, 2)))
        self.assertIs(False, linked(WITH_KNOT, (0, 3), (0, 3)))
        self.assertIs(False, linked(Chart.fan(4), (0, 1), (2, 3)))
        self.assertEqual(((0, 1, 2), (0, 3), (1, 3)), ahead_of(WITH_KNOT, (2, 3)))
        self.assertEqual((), ahead_of(Chart.fan(2), (0, 1)))

    def test_refusals(self):
        """[21] What is no knot raises BadKind, behind Unsound."""
        for value in NO_CHARTS:
            self.due(BadKind, {"word": "chart"}, linked, value, None, None)
            self.due(BadKind, {"word": "chart"}, ahead_of, value, None)
        for value in (None, (0, 1), 5):
            self.due(Unsound, {"four": (0, 1, 2, 3)}, linked, UNSOUND, value, value)
            self.due(Unsound, {"four": (0, 1, 2, 3)}, ahead_of, UNSOUND, value)
        for value in NO_KNOTS:
            self.due(BadKind, {"word": "knot"}, linked, WITH_KNOT, value, (0, 3))
            self.due(BadKind, {"word": "knot"}, linked, WITH_KNOT, (0, 3), value)
            self.due(BadKind, {"word": "knot"}, ahead_of, WITH_KNOT, value)
        for value in ((), (0,), (0, 0), (0, 1)):
            self.due(BadKind, {"word": "knot"}, ahead_of, Chart.fan(1), value)

    def test_arguments_stay(self):
        knot = [2, 0, 1]
        lot = [[3, 0], [2, 1, 0]]
        linked(WITH_KNOT, knot, [0, 3])
        closed(WITH_KNOT, lot)
        is_order(WITH_KNOT, lot)
        self.assertEqual(([2, 0, 1], [[3, 0], [2, 1, 0]]), (knot, lot))


class ClosedLotsTest(DueCase):
    def test_every_lot_of_four_lines(self):
        """[20] Closed lots, and the knots that are ready behind them."""
        for chart in every_sound_chart(4) + every_sound_chart(3):
            before = told_before(chart)
            for lot in every_lot(told_knots(chart)):
                full = set(lot).union(*[before[knot] for knot in lot])
                self.assertEqual(tuple(sorted(full)), closed(chart, lot[::-1]))
                self.assertIs(full == set(lot), is_closed(chart, list(lot)))
                self.check_ready(chart, before, lot)

    def check_ready(self, chart, before, lot):
        wrong = [knot for knot in lot if not before[knot] <= set(lot)]
        if wrong:
            self.due(NotReady, {"knot": wrong[0]}, ready, chart, lot[::-1])
        else:
            told = [knot for knot in sorted(before) if knot not in lot and before[knot] <= set(lot)]
            self.assertEqual(tuple(told), ready(chart, lot[::-1]))
            self.assertEqual(tuple(told), ready(chart, [list(knot[::-1]) for knot in lot]))

    def test_larger_charts(self):
        for drawing in some_drawings(7, 6):
            chart = drawing.chart()
            before = told_before(chart)
            knots = sorted(before)
            for knot in knots:
                self.assertEqual(tuple(sorted({knot} | before[knot])), closed(chart, [knot]))
            for lot in every_lot(knots[:3] + knots[-3:]):
                self.check_ready(chart, before, tuple(sorted(lot)))

    def test_empty_lots(self):
        for empty in ([], ()):
            for chart in (Chart.fan(1), Chart.fan(2), WITH_KNOT):
                self.assertEqual((), closed(chart, empty))
                self.assertIs(True, is_closed(chart, empty))
            self.assertEqual((), ready(Chart.fan(1), empty))
            self.assertEqual(((0, 1),), ready(Chart.fan(2), empty))
            self.assertEqual(((0, 1, 2),), ready(WITH_KNOT, empty))

    def test_rows_behind_closed_lots(self):
        """[24] The rows of all drawings are the rows behind closed lots, unlike for unlike lots."""
        drawings = every_drawing(4)
        for chart in every_sound_chart(4):
            lots = [lot for lot in every_lot(knots_of(chart)) if is_closed(chart, lot)]
            rows = [told_row(chart, lot) for lot in lots]
            drawn = {row for drawing in drawings if drawing.chart() == chart for row in drawing.rows()}
            self.assertEqual(len(lots), len(set(rows)))
            self.assertEqual(drawn, set(rows))
            for one in lots:
                for other in lots:
                    self.assertIs(True, is_closed(chart, sorted(set(one) & set(other))))
                    self.assertIs(True, is_closed(chart, sorted(set(one) | set(other))))

    def test_closed_lots_of_the_fan(self):
        """[24] The fan of n lines has 2 ** (n-1) closed lots."""
        for size in range(1, 8):
            chart = Chart.fan(size)
            found = {()}
            waiting = [()]
            while waiting:
                lot = waiting.pop()
                for knot in ready(chart, lot):
                    more = tuple(sorted([*lot, knot]))
                    if more not in found:
                        found.add(more)
                        waiting.append(more)
            self.assertEqual(2 ** (size - 1), len(found))

    def test_ready_knots(self):
        """[25] Ready knots stand side by side and rising, without a common line; some knot is ready."""
        for chart in every_sound_chart(4):
            knots = knots_of(chart)
            for lot in every_lot(knots):
                if is_closed(chart, lot):
                    row = told_row(chart, lot)
                    found = ready(chart, lot)
                    self.assertIs(found == (), lot == knots)
                    for knot in found:
                        at = row.index(knot[0])
                        self.assertEqual(knot, row[at:at + len(knot)])
                    lines = [line for knot in found for line in knot]
                    self.assertEqual(len(lines), len(set(lines)))

    def test_refusals(self):
        """[21] The kind of knots ahead of Unsound, the entries behind it and in order."""
        for call in (closed, is_closed, ready):
            for value in NO_CHARTS:
                self.due(BadKind, {"word": "chart"}, call, value, None)
            for value in NO_LISTS:
                self.due(BadKind, {"word": "knots"}, call, UNSOUND, value)
            for value in ([], [None], [(0, 1), (0, 1)]):
                self.due(Unsound, {"four": (0, 1, 2, 3)}, call, UNSOUND, value)
            for value in NO_KNOTS:
                self.due(BadKind, {"word": "knot"}, call, WITH_KNOT, [(2, 3), value, (2, 3)])
            self.due(BadKind, {"word": "knots"}, call, WITH_KNOT, [(0, 1, 2), [2, 1, 0], None])
            self.due(BadKind, {"word": "knots"}, call, WITH_KNOT, [(2, 3), (3, 2)])

    def test_not_ready(self):
        fan = Chart.fan(4)
        self.due(NotReady, {"knot": (0, 3)}, ready, fan, [(2, 3), (0, 1), (0, 3)])
        self.due(NotReady, {"knot": (0, 2)}, ready, fan, [(0, 3), (0, 2)])
        # On line 3 of the contrary fan 2 is met first: (0, 3) has its neighbour (1, 3), but not (2, 3) before that.
        self.due(NotReady, {"knot": (0, 3)}, ready, -fan, [(1, 3), (0, 3)])


class OrdersTest(DueCase):
    def test_every_sequence_of_four_lines(self):
        """[20] [23] The orders are just the sequences of the knots that the drawings turn."""
        drawings = every_drawing(4) + every_drawing(3)
        for chart in every_sound_chart(4) + every_sound_chart(3):
            drawn = [drawing.knots() for drawing in drawings if drawing.chart() == chart]
            self.assertEqual(len(drawn), len(set(drawn)))
            knots = knots_of(chart)
            if len(knots) == 6 and chart.marks not in ("++++", "--++", "+---"):
                continue
            orders = [order for order in permutations(knots) if is_order(chart, order)]
            self.assertEqual(sorted(drawn), sorted(orders))

    def test_all_drawings_turn_orders(self):
        for drawing in every_drawing(4) + some_drawings(12, 4) + some_drawings(16, 2):
            knots = drawing.knots()
            chart = drawing.chart()
            self.assertIs(True, is_order(chart, [list(knot[::-1]) for knot in knots]))
            self.assertIs(len(knots) == 1, is_order(chart, knots[::-1]))

    def test_missing_and_twice(self):
        """[20] False also if a knot is missing or occurs twice."""
        order = [(0, 1, 2), (0, 3), (1, 3), (2, 3)]
        self.assertIs(True, is_order(WITH_KNOT, order))
        self.assertIs(False, is_order(WITH_KNOT, order[:3]))
        self.assertIs(False, is_order(WITH_KNOT, []))
        self.assertIs(False, is_order(WITH_KNOT, order + [(2, 3)]))
        self.assertIs(False, is_order(WITH_KNOT, order[:3] + [(1, 3)]))
        self.assertIs(True, is_order(Chart.fan(1), []))
        self.assertIs(True, is_order(Chart.fan(2), ([1, 0],)))

    def test_refusals(self):
        for value in NO_CHARTS:
            self.due(BadKind, {"word": "chart"}, is_order, value, None)
        for value in NO_LISTS:
            self.due(BadKind, {"word": "knots"}, is_order, UNSOUND, value)
        self.due(Unsound, {"four": (0, 1, 2, 3)}, is_order, UNSOUND, [None])
        for value in NO_KNOTS:
            self.due(BadKind, {"word": "knot"}, is_order, WITH_KNOT, [(2, 3), (2, 3), value])


class RingOfLinksTest(DueCase):
    def check_ring(self, chart):
        """[23] Without fours of two or three signs 0, sound means that there is no ring of links."""
        wrong = [four for four in combinations(range(chart.size), 4)
                 if chart.part(four).signs.count(0) in (2, 3)]
        if wrong:
            self.due(Unsound, {"four": wrong[0]}, ring_of_links, chart)
            return
        found = ring_of_links(chart)
        if chart.sound:
            self.assertIsNone(found)
            return
        self.assertIsInstance(found, tuple)
        self.assertGreaterEqual(len(found), 2)
        self.assertEqual(len(found), len(set(found)))
        knots = told_knots(chart)
        for at, knot in enumerate(found):
            self.assertIn(knot, knots)
            self.assertIs(True, told_linked(chart, found[at - 1], knot))

    def test_every_chart_of_four_lines(self):
        for chart in every_chart(4):
            self.check_ring(chart)

    def test_other_charts(self):
        for chart in some_charts(5, 60) + some_charts(6, 20) + every_chart(3) + [Chart.fan(1), Chart.fan(2)]:
            self.check_ring(chart)
        for size in (5, 6, 7):
            for chart in some_charts(size, 20):
                self.check_ring(Chart(size, [sign or 1 for sign in chart]))

    def test_charts_near_sound_ones(self):
        for drawing in some_drawings(6, 8):
            signs = list(drawing.chart())
            self.check_ring(Chart(6, signs))
            for at, sign in enumerate(signs):
                self.check_ring(Chart(6, signs[:at] + [-sign] + signs[at + 1:]))

    def test_many_lines(self):
        for chart in larger_charts():
            self.assertIsNone(ring_of_links(chart))
        chart = Chart.fan(12) + UNSOUND
        ring = ring_of_links(chart)
        self.assertTrue(all(told_linked(chart, ring[at - 1], ring[at]) for at in range(len(ring))))

    def test_refusals(self):
        for value in NO_CHARTS:
            self.due(BadKind, {"word": "chart"}, ring_of_links, value)
        self.due(Unsound, {"four": (0, 1, 2, 3)}, ring_of_links, Chart.told(4, "00++"))
        self.due(Unsound, {"four": (0, 1, 2, 3)}, ring_of_links, Chart.told(4, "0+00"))
        self.due(Unsound, {"four": (1, 2, 3, 4)}, ring_of_links, Chart.fan(1) + Chart.told(4, "00++"))
        self.assertIsNotNone(ring_of_links(UNSOUND))


if __name__ == "__main__":
    unittest.main()
