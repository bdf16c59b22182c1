"""The module through: point [142]."""

import unittest

from bentlines.charts import Chart
from bentlines.errors import BadKind, BadNumber, Degenerate, NotPlace
from bentlines.lastlines import put_in
from bentlines.places import all_places
from bentlines.through import goes_through, names_through, order_through_places
from tests.helpers import NO_INTEGERS, NO_LISTS, UNSOUND, WITH_KNOT, DueCase, drawn_charts, huge_charts, large_charts
from tests.test_lastlines import NO_ORDERS, chart_lines, some_charts_of_four, told_lots, told_orders


def told_names(first, second, size):
    """The names by the condition of [142]."""
    ahead, behind = set(first) - set(second), set(second) - set(first)
    return tuple(i for i in range(size + 1)
                 if all(x < i for x in ahead) and all(x >= i for x in behind)
                 or all(x < i for x in behind) and all(x >= i for x in ahead))


class NamesTest(DueCase):
    def test_every_small_chart(self):
        """[142] A name is told exactly if some order with this name has both places along it."""
        for chart in some_charts_of_four():
            ways = [[set(told_lots(name, order)) for order in told_orders(chart, name)]
                    for name in range(chart.size + 1)]
            places = list(all_places(chart))
            for first in places:
                for second in places:
                    told = tuple(name for name, lots in enumerate(ways)
                                 if any(first in along and second in along for along in lots))
                    self.assertEqual(told, names_through(chart, first[::-1], list(second)))

    def test_larger_charts(self):
        """[142] The condition that is told by the lines of the two places alone."""
        for chart in drawn_charts(5)[::5] + large_charts()[::3]:
            places = list(all_places(chart))
            for first in places[::3]:
                for second in places:
                    self.assertEqual(told_names(first, second, chart.size), names_through(chart, first, second))

    def test_one_place_and_neighbours(self):
        """[142] Each place has a new line of every name, and so have two places with one unlike line."""
        for chart in drawn_charts(4) + large_charts()[:4]:
            places = list(all_places(chart))
            for first in places:
                self.assertEqual(tuple(range(chart.size + 1)), names_through(chart, first, first))
                for line in first:
                    second = tuple(x for x in first if x != line)
                    if second in places:
                        self.assertEqual(tuple(range(chart.size + 1)), names_through(chart, first, second))

    def test_few_lines(self):
        self.assertEqual((0, 1), names_through(Chart.fan(1), [], [0]))
        self.assertEqual((0, 1, 2), names_through(Chart.fan(2), [0, 1], [0]))
        self.assertEqual((0, 2), names_through(Chart.fan(2), [], [1, 0]))
        self.assertEqual((1,), names_through(Chart.fan(2), [0], (1,)))

    def test_refusals(self):
        self.asks_for_chart(names_through, None, None)
        self.asks_for_lot(names_through, None)
        self.asks_for_lot(lambda chart, lot: names_through(chart, [3, 0], lot))
        self.asks_for_soundness(names_through, [2], [1, 2])
        self.due(NotPlace, {"three": (0, 1, 2)}, names_through, WITH_KNOT, [2, 0], [1])
        self.due(NotPlace, {"three": (0, 1, 2)}, names_through, WITH_KNOT, [0], (1,))


class OrderTest(DueCase):
    def check_order(self, chart, name, first, second):
        if name not in told_names(first, second, chart.size):
            self.due(Degenerate, {"word": "name"}, order_through_places, chart, name, first, second)
            return
        order = order_through_places(chart, name, first[::-1], list(second))
        self.assertIsInstance(order, tuple)
        self.assertEqual(list(range(chart.size)), sorted(order))
        lots = told_lots(name, order)
        self.assertLessEqual({first, second}, set(lots))
        self.assertLessEqual(set(lots), set(all_places(chart)))
        if chart.size < 16:
            put_in(chart, name, order)

    def test_every_small_chart(self):
        """[142] The order can be put in and has both places along it."""
        for chart in some_charts_of_four():
            places = list(all_places(chart))
            for name in range(chart.size + 1):
                for first in places:
                    for second in places:
                        self.check_order(chart, name, first, second)

    def test_huge_charts(self):
        for chart in huge_charts()[::2]:
            places = list(all_places(chart))
            for name in (0, 5, chart.size):
                for at in (0, 3, len(places) // 2, len(places) - 2):
                    self.check_order(chart, name, places[at], places[at])
                    self.check_order(chart, name, places[at], places[at + 1])

    def test_refusals(self):
        self.asks_for_chart(order_through_places, None, None, None)
        for value in (*NO_INTEGERS, -1, 5):
            self.due(BadNumber, {"word": "name"}, order_through_places, UNSOUND, value, None, None)
        self.asks_for_lot(lambda chart, lot: order_through_places(chart, 0, lot, None))
        self.asks_for_lot(lambda chart, lot: order_through_places(chart, 4, [1], lot))
        self.asks_for_soundness(order_through_places, 3, [2], [1, 2])
        self.due(NotPlace, {"three": (0, 1, 2)}, order_through_places, WITH_KNOT, 0, [2, 0], [1])
        self.due(NotPlace, {"three": (0, 1, 2)}, order_through_places, WITH_KNOT, 1, [0], [1])
        self.due(Degenerate, {"word": "name"}, order_through_places, WITH_KNOT, 1, [], [0, 1])
        self.due(Degenerate, {"word": "name"}, order_through_places, Chart.fan(16), 0, [0], [15])


class GoesTest(DueCase):
    def test_every_small_chart(self):
        """[142] Whether the place is one of the lots along the order."""
        for chart in some_charts_of_four():
            places = list(all_places(chart))
            for name in range(chart.size + 1):
                for order in told_orders(chart, name)[::3]:
                    told = [place for place in places if place in told_lots(name, order)]
                    self.assertEqual(told, [place for place in places
                                            if goes_through(chart, name, list(order), place[::-1])])
                    self.assertIs(True, goes_through(chart, name, order, told[0]))

    def test_many_lines(self):
        order = list(range(16))
        fan = Chart.fan(16)
        self.assertIs(True, goes_through(fan, 16, order, list(range(3, 16))))
        self.assertIs(False, goes_through(fan, 16, order, list(range(3))))

    def test_refusals(self):
        self.asks_for_chart(goes_through, None, None, None)
        for value in (*NO_INTEGERS, -1, 5):
            self.due(BadNumber, {"word": "name"}, goes_through, UNSOUND, value, None, None)
        for value in NO_ORDERS:
            self.due(BadKind, {"word": "order"}, goes_through, UNSOUND, 4, value, None)
        for value in NO_LISTS:
            self.due(BadKind, {"word": "lot"}, goes_through, UNSOUND, 4, [3, 1, 0, 2], value)
        self.asks_for_lot(lambda chart, lot: goes_through(chart, 4, [3, 1, 0, 2], lot))
        self.asks_for_soundness(lambda chart: goes_through(chart, 0, chart_lines(chart), [0]))
        # The order is asked ahead of the place.
        fan = Chart.fan(4)
        self.due(NotPlace, {"three": (0, 2, 3)}, goes_through, fan, 4, (2, 1, 3, 0), [0, 2])
        self.due(NotPlace, {"three": (0, 1, 2)}, goes_through, fan, 4, (0, 1, 2, 3), [0, 2])

    def test_arguments_stay(self):
        order, first, second = [0, 1, 2], [1, 0], [2, 1]
        goes_through(Chart.fan(3), 3, order, first)
        names_through(Chart.fan(3), first, second)
        order_through_places(Chart.fan(3), 1, first, second)
        self.assertEqual(([0, 1, 2], [1, 0], [2, 1]), (order, first, second))


if __name__ == "__main__":
    unittest.main()
