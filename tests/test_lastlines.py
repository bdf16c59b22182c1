"""The module lastlines: points [136] to [141] and [145]."""

import unittest
from itertools import permutations

from bentlines.charts import Chart
from bentlines.crossings import edge_of
from bentlines.drawings import Drawing
from bentlines.errors import BadKind, BadLine, BadNumber, NotPlace, NotSimple, TooMany
from bentlines.lastlines import both, count_orders, either, lots_along, order_of, orders, put_in, taken_out
from bentlines.links import knots_of
from bentlines.places import all_places, is_place, wrong_three
from tests.helpers import (NO_INTEGERS, NO_LISTS, UNSOUND, WITH_KNOT, DueCase, drawn_charts, every_drawing,
                           huge_charts, large_charts, large_simple_charts, simple_charts,
                           small_charts, small_simple_charts, some_drawings, told_above, told_knots)

# Charts of 14 lines with just 5000 and 5001 orders with the name 11, found by turning triangles over.
JUST_5000 = ("++-+--+++-+-+-+---+--+--+---+----++++++++----------+++-+-+++-+-+--+------+-+--+-+---+-----+--------+"
             "+++++++----------+++-+-+++++-+--+------+-+------------++++++++----------+++++-+++++-+--+------+-+--+"
             "++++++++---------+++++-+++++++--+------+-+------------+-----+----+-----------+---+++++++++++++++++--"
             "--+++++-+++++++---------+-+--+---------+-+-------+-+--+++++-+---")
JUST_5001 = ("++-+--+++-+-+-+--+++-+------+----+++++++++---+-----+++-+-+++-+-+--+------+-+--+-+--++--+-----------+"
             "++++++++---------+++-+-+++-+-+---------+-+------------+++++++++---------+++-+-+++-+-+---------+-+--+"
             "++++++++---+--+--+++-+-+++-+-+--+------+-+-----------------++----+-----------+--++++++++++++++++++--"
             "--++++--+++++++---------+-+--+---------+-+------++++--++++--+---")
# What is no order of four lines.
NO_ORDERS = (*NO_LISTS, [], (0, 1, 2), [0, 1, 2, 2], (0, 1, 2, 3, 3), [0, 1, 2, 4], (-1, 0, 1, 2), [0, 1, 2, "3"],
             [True, 0, 2, 3], (0.0, 1, 2, 3), [0, 1, 2, None])


def chart_lines(chart):
    return tuple(range(chart.size))


def told_lots(name, order):
    """The lots along an order, by the words of [137]."""
    lots, lot = [tuple(range(name))], set(range(name))
    for line in order:
        lot = lot - {line} if line < name else lot | {line}
        lots.append(tuple(sorted(lot)))
    return tuple(lots)


def told_put_in(chart, name, order):
    """The chart with the new line, by the words of [137], whether it is sound or not."""
    n = chart.size
    new = [x if x < name else x + 1 for x in range(n)]
    old = dict(zip(new, range(n)))
    signs = []
    for i in range(n + 1):
        for j in range(i + 1, n + 1):
            for k in range(j + 1, n + 1):
                rest = [old[x] for x in (i, j, k) if x != name]
                if len(rest) == 3:
                    signs.append(chart.sign(rest))
                else:
                    signs.append(1 if order.index(rest[0]) < order.index(rest[1]) else -1)
    return Chart(n + 1, signs)


def told_orders(chart, name):
    """All orders that can be put in, by trying."""
    return [order for order in permutations(range(chart.size))
            if all(is_place(chart, lot) for lot in told_lots(name, order))]


def some_charts_of_four():
    return [chart for size in (1, 2, 3, 4) for chart in drawn_charts(size)] + drawn_charts(5)[::40]


class LotsTest(DueCase):
    def test_every_order(self):
        """[137] From 0 .. i-1 to i .. n-1; lines below i leave, the others come in."""
        for size in (1, 2, 3, 4):
            for name in range(size + 1):
                for order in permutations(range(size)):
                    found = lots_along(size, name, list(order))
                    self.assertEqual(told_lots(name, order), found)
                    self.assertEqual((tuple(range(name)), tuple(range(name, size))), (found[0], found[-1]))
        self.assertEqual(17, len(lots_along(16, 16, tuple(range(16)))))

    def test_refusals(self):
        for value in (*NO_INTEGERS, 0, -1, 17):
            self.due(BadNumber, {"word": "size"}, lots_along, value, None, None)
        for value in (*NO_INTEGERS, -1, 5):
            self.due(BadNumber, {"word": "name"}, lots_along, 4, value, None)
        for value in NO_ORDERS:
            self.due(BadKind, {"word": "order"}, lots_along, 4, 4, value)
        self.assertEqual(((), (0,)), lots_along(1, 0, [0]))
        self.assertEqual(((0,), ()), lots_along(1, 1, [0]))


class PutInTest(DueCase):
    def test_every_small_chart(self):
        """[137] [138] The new chart is sound exactly if all lots along the order are places."""
        for chart in some_charts_of_four()[:-3]:
            for name in range(chart.size + 1):
                for order in permutations(range(chart.size)):
                    told = told_put_in(chart, name, order)
                    wrong = [lot for lot in told_lots(name, order) if not is_place(chart, lot)]
                    self.assertIs(told.sound, not wrong)
                    if wrong:
                        self.due(NotPlace, {"three": wrong_three(chart, wrong[0])}, put_in, chart, name, order)
                    else:
                        made = put_in(chart, name, list(order))
                        self.assertEqual((told, order, chart),
                                         (made, order_of(made, name), taken_out(made, name)))

    def test_lines_put_in_again(self):
        """[138] Each line that goes through no meeting of two others can be taken out and put in again."""
        for chart in (small_charts() + large_charts() + huge_charts())[1:]:
            big = [knot for knot in knots_of(chart) if len(knot) > 2]
            for line in range(chart.size)[::1 if chart.size < 9 else 7]:
                through = [knot for knot in big if line in knot]
                if through:
                    self.due(NotSimple, {"knot": through[0]}, order_of, chart, line)
                else:
                    rest = taken_out(chart, line)
                    self.assertEqual(chart, put_in(rest, line, order_of(chart, line)))
                self.assertEqual(chart.part([x for x in range(chart.size) if x != line]), taken_out(chart, line))

    def test_two_lines_taken_out(self):
        """[138] It does not matter which of two lines goes first."""
        for chart in small_charts()[-60::3]:
            for first in range(chart.size):
                for second in range(first + 1, chart.size):
                    self.assertEqual(taken_out(taken_out(chart, first), second - 1),
                                     taken_out(taken_out(chart, second), first))

    def test_edges(self):
        """[145] Over which edges the meetings of a simple chart go when a line of the last name is put in."""
        for chart in small_simple_charts()[1:40] + large_simple_charts()[::5]:
            n, order = chart.size, list(orders(chart, chart.size))[-2]
            made = put_in(chart, n, order)
            self.assertEqual([n + 1 - y for y in range(1, n + 1)], [edge_of(made, (x, n)) for x in order])
            for pair in knots_of(chart):
                self.assertEqual(edge_of(chart, pair) + (n in told_above(made, *pair)), edge_of(made, pair))

    def test_few_lines(self):
        one = Chart.fan(1)
        self.assertEqual((), order_of(one, 0))
        self.assertEqual([(0,), (0,)], [order_of(Chart.fan(2), line) for line in (0, 1)])
        self.assertEqual([Chart.fan(2)] * 2, [put_in(one, name, [0]) for name in (0, 1)])
        self.assertEqual(one, taken_out(Chart.fan(2), 1))
        self.assertEqual(["+", "-"], [put_in(Chart.fan(2), 1, order).marks for order in ((0, 1), (1, 0))])

    def test_refusals(self):
        self.asks_for_chart(put_in, None, None)
        for value in (*NO_INTEGERS, -1, 5):
            self.due(BadNumber, {"word": "name"}, put_in, UNSOUND, value, None)
        for value in NO_ORDERS:
            self.due(BadKind, {"word": "order"}, put_in, UNSOUND, 4, value)
        huge = UNSOUND + UNSOUND + UNSOUND + UNSOUND
        self.due(BadKind, {"word": "order"}, put_in, huge, 16, list(range(15)))
        self.due(TooMany, {"word": "lines"}, put_in, huge, 16, list(range(16)))
        self.due(TooMany, {"word": "lines"}, put_in, Chart.fan(16), 16, tuple(range(16)))
        self.due(BadKind, {"word": "order"}, put_in, UNSOUND + UNSOUND, 8, list(range(4)))
        self.asks_for_soundness(lambda chart: put_in(chart, 0, chart_lines(chart)))

    def test_refused_lines(self):
        for call in (order_of, taken_out):
            self.asks_for_chart(call, None)
            self.asks_for_line(call)
            self.asks_for_soundness(call, 3)
        self.due(BadKind, {"word": "lot"}, taken_out, Chart.fan(1), 0)
        self.due(BadLine, {"line": 1}, taken_out, Chart.fan(1), 1)
        self.due(NotSimple, {"knot": (0, 1, 2)}, order_of, WITH_KNOT, 1)
        self.assertEqual((0, 1, 2), order_of(WITH_KNOT, 3))
        # The least such knot of this line, not of the chart.
        chart = Chart.told(5, "0" + "+" * 8 + "0")
        self.assertEqual([(0, 1, 2), (2, 3, 4)], [knot for knot in told_knots(chart) if len(knot) > 2])
        self.due(NotSimple, {"knot": (2, 3, 4)}, order_of, chart, 4)
        self.due(NotSimple, {"knot": (0, 1, 2)}, order_of, chart, 2)


class OrdersTest(DueCase):
    def test_every_small_chart(self):
        """[138] All orders that can be put in, ascending, and how many they are."""
        for chart in some_charts_of_four():
            for name in range(chart.size + 1):
                told = told_orders(chart, name)
                self.assertEqual(told, list(orders(chart, name)))
                self.assertEqual(len(told), count_orders(chart, name))

    def test_numbers_of_charts(self):
        """[139] For each name, as many orders in all as there are charts of one line more."""
        known = [1, 1, 2, 8, 62, 908]
        for size in (1, 2, 3, 4, 5):
            for name in range(size + 1):
                self.assertEqual(known[size], sum(count_orders(chart, name) for chart in simple_charts(size)))

    def test_rows(self):
        """[140] The orders with the last name are the rows of all drawings, read from the lowest stand up."""
        for size in (1, 2, 3, 4):
            rows = {}
            for drawing in every_drawing(size):
                found = rows.setdefault(drawing.chart().marks, set())
                found.update(row[::-1] for row in drawing.rows())
            for marks, told in rows.items():
                self.assertEqual(sorted(told), list(orders(Chart.told(size, marks), size)))

    def test_large_charts(self):
        for chart in large_simple_charts()[::3] + large_charts()[-4:]:
            known = set(all_places(chart))
            for name in (0, 2, chart.size // 2, chart.size):
                found = list(orders(chart, name))
                self.assertEqual(sorted(set(found)), found)
                self.assertEqual(len(found), count_orders(chart, name))
                for order in found[::50]:
                    self.assertLessEqual(set(told_lots(name, order)), known)

    def test_many_orders(self):
        """No bound for the number; more than 5000 are not listed."""
        self.assertEqual(2 ** 15, count_orders(Chart.fan(16), 16))
        self.assertEqual(2, count_orders(Chart(16, [0] * 560), 0))
        self.assertEqual([tuple(range(16)), tuple(range(15, -1, -1))], list(orders(Chart(16, [0] * 560), 16)))
        self.assertEqual(2 ** 12, len(list(orders(Chart.fan(13), 13))))
        just = Chart.told(14, JUST_5000)
        self.assertEqual((5000, 5000), (count_orders(just, 11), len(list(orders(just, 11)))))
        self.assertEqual(5001, count_orders(Chart.told(14, JUST_5001), 11))
        for chart, name in ((Chart.told(14, JUST_5001), 11), (Chart.fan(14), 14), (Chart.fan(16), 0)):
            self.due(TooMany, {"word": "orders"}, lambda *given: next(orders(*given)), chart, name)

    def test_exchanges(self):
        """[141] As many exchanges of neighbours as pairs stand in another order lead from order to order."""
        for chart in simple_charts(4) + simple_charts(5)[::10]:
            known = list(orders(chart, chart.size))
            for begin in known:
                steps, reached = {begin: 0}, [begin]
                for order in reached:
                    for at in range(chart.size - 1):
                        near = order[:at] + (order[at + 1], order[at]) + order[at + 2:]
                        if near in known and near not in steps:
                            steps[near] = steps[order] + 1
                            reached.append(near)
                told = {order: len([1 for at, x in enumerate(order) for y in order[at + 1:]
                                    if begin.index(x) > begin.index(y)]) for order in known}
                self.assertEqual(told, steps)

    def test_refusals(self):
        for call in (count_orders, lambda *given: next(orders(*given))):
            self.asks_for_chart(call, None)
            for value in (*NO_INTEGERS, -1, 5):
                self.due(BadNumber, {"word": "name"}, call, UNSOUND, value)
            self.asks_for_soundness(call, 3)
        # Nothing is asked before the iteration begins.
        orders(None, None)


class TwoOrdersTest(DueCase):
    def knots_above(self, chart, order):
        """The knots above the new line with the last name: those that the line is below."""
        made = told_put_in(chart, chart.size, order)
        return {knot for knot in told_knots(chart) if chart.size not in told_above(made, *knot[:2])}

    def test_every_small_chart(self):
        """[140] The knots above both new lines, and those above at least one."""
        for chart in some_charts_of_four() + large_charts()[1:2]:
            known = list(orders(chart, chart.size))
            over = {order: self.knots_above(chart, order) for order in known}
            for first in known[::1 if chart.size < 6 else 9]:
                for second in known[::1 if chart.size < 6 else 9]:
                    low, high = both(chart, first, list(second)), either(chart, list(first), second)
                    self.assertEqual((over[first] & over[second], over[first] | over[second]),
                                     (over[low], over[high]))

    def test_huge_charts(self):
        for drawing in some_drawings(16, 2) + [Drawing.of(Chart.fan(16))]:
            chart, rows = drawing.chart(), list(drawing.rows())
            first, second = rows[len(rows) // 3][::-1], rows[len(rows) // 2][::-1]
            self.assertEqual((first, second), (both(chart, second, first), either(chart, first, second)))

    def test_few_lines(self):
        for call in (both, either):
            self.assertEqual((0,), call(Chart.fan(1), [0], (0,)))
        self.assertEqual([(1, 0), (0, 1)], [call(Chart.fan(2), (0, 1), (1, 0)) for call in (both, either)])

    def test_refusals(self):
        for call in (both, either):
            self.asks_for_chart(call, None, None)
            for value in NO_ORDERS:
                self.due(BadKind, {"word": "order"}, call, UNSOUND, value, None)
                self.due(BadKind, {"word": "other"}, call, UNSOUND, [3, 2, 1, 0], value)
            self.asks_for_soundness(lambda chart: call(chart, list(chart_lines(chart)), chart_lines(chart)))
            self.due(NotPlace, {"three": (0, 2, 3)}, call, Chart.fan(4), (2, 3, 0, 1), (1, 0, 3, 2))
            self.due(NotPlace, {"three": (0, 1, 2)}, call, Chart.fan(4), (3, 2, 1, 0), (1, 0, 3, 2))

    def test_arguments_stay(self):
        first, second = [0, 2, 1], [2, 0, 1]
        both(Chart.fan(3), first, second)
        either(Chart.fan(3), first, second)
        put_in(Chart.fan(3), 3, second)
        lots_along(3, 1, second)
        self.assertEqual(([0, 2, 1], [2, 0, 1]), (first, second))


if __name__ == "__main__":
    unittest.main()
