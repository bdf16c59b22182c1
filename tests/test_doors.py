"""The module doors: points [61] to [65], [68] and [69], so far as they speak of it."""

import unittest

from bentlines.charts import Chart
from bentlines.crossings import edges_of
from bentlines.doors import Weight, door_list, door_table, left_doors, right_doors, told_left, told_right, weight
from bentlines.errors import BadKind, BadLine, BadNumber, NotPlace
from bentlines.links import knots_of
from bentlines.loose import loosened, whole_loosened
from bentlines.places import all_places, is_place
from tests.helpers import (NO_CHARTS, NO_INTEGERS, NO_KNOTS, NO_LISTS, UNSOUND, WITH_KNOT, DueCase, every_lot,
                           few_charts, huge_charts, large_charts, small_charts)
from tests.test_lefts import told_lying


def told_weight(chart, knot, place, edge):
    """What a knot weighs at an edge, by the words of [61] and [62]."""
    over = edges_of(chart, knot)
    if edge not in over:
        return 0
    h, k, m = 1 + over.index(edge), len(set(knot) & set(place)), len(knot)
    return min(h, k, m - h, m - k)


def told_table(size, lot):
    """The doors of a lot wherever it is a place, by the formulas of [63]."""
    return tuple((min(len(lot), g) - len([x for x in lot if x < g]),
                  min(len(lot), g) - len([x for x in lot if x >= size - g])) for g in range(1, size))


def with_places(charts):
    return [(chart, place) for chart in charts for place in all_places(chart)]


class WeightTest(DueCase):
    def test_numbers(self):
        """[61] The least of h, k, m-h, m-k if 0 < h < m, else 0."""
        for m in range(1, 9):
            for k in range(m + 1):
                for h in range(-2, m + 3):
                    self.assertEqual(min(h, k, m - h, m - k) if 0 < h < m else 0, weight(h, k, m))
        self.assertEqual((1, 3, 0, 0), (weight(2, 3, 4), weight(3, 4, 8), weight(-10 ** 200, 0, 1),
                                        weight(10 ** 200, 1, 2)))
        self.assertEqual(10 ** 99, weight(3 * 10 ** 99, 10 ** 99, 10 ** 100))

    def test_refusals(self):
        for value in NO_INTEGERS:
            self.due(BadNumber, {"word": "step"}, weight, value, None, None)
            self.due(BadNumber, {"word": "share"}, weight, 9, value, None)
            self.due(BadNumber, {"word": "many"}, weight, 9, 9, value)
        self.due(BadNumber, {"word": "share"}, weight, 1, -1, 0)
        self.due(BadNumber, {"word": "many"}, weight, -1, 3, 0)
        self.due(BadNumber, {"word": "many"}, weight, 1, 0, -1)
        self.due(BadNumber, {"word": "share"}, weight, 1, 3, 2)
        self.assertEqual((0, 0), (weight(1, 2, 2), weight(1, 0, 1)))


class ToldTest(DueCase):
    def test_every_lot(self):
        """[63] By names alone, for any lot."""
        for size in (2, 3, 4, 5):
            for lot in every_lot(range(size)):
                for edge in range(1, size):
                    told = told_table(size, lot)[edge - 1]
                    self.assertEqual(told, (told_left(size, lot[::-1], edge), told_right(size, list(lot), edge)))
        self.assertEqual((5, 5), (told_left(16, (7, 8, 9, 10, 11), 7), told_right(16, (4, 5, 6, 7, 8), 7)))

    def test_refusals(self):
        for call in (told_left, told_right):
            for value in (*NO_INTEGERS, 0, -1, 17):
                self.due(BadNumber, {"word": "size"}, call, value, None, None)
            for value in NO_LISTS:
                self.due(BadKind, {"word": "lot"}, call, 3, value, 0)
            for value in (*NO_INTEGERS, 3, -1):
                self.due(BadLine, {"line": value}, call, 3, (0, value, 0), 3)
                self.due(BadNumber, {"word": "edge"}, call, 3, [2, 0], value)
            self.due(BadLine, {"line": 2}, call, 3, [2, 2], 1)
            self.due(BadNumber, {"word": "edge"}, call, 3, (), 0)
            for value in (0, 1):
                self.due(BadNumber, {"word": "edge"}, call, 1, (), value)


class DoorsTest(DueCase):
    def test_every_small_chart(self):
        """[62] [63] The doors are what the formulas tell, and the sums of what the listed knots weigh."""
        for chart, place in with_places(few_charts() + large_charts()[::4]):
            table = door_table(chart, place[::-1])
            self.assertEqual(told_table(chart.size, place), table)
            for edge in range(1, chart.size):
                told = [(knot, told_weight(chart, knot, place, edge), told_lying(knot, place))
                        for knot in knots_of(chart)]
                found = door_list(chart, list(place), edge)
                self.assertEqual([one for one in told if one[1]], found)
                sums = tuple(sum(one[1] for one in found if one[2] == side) for side in ("left", "right"))
                self.assertEqual(sums, table[edge - 1])
                self.assertEqual(sums, (left_doors(chart, place[::-1], edge), right_doors(chart, place, edge)))

    def test_formulas(self):
        """[63] The table of every place, in all small charts and in huge ones."""
        for chart in small_charts() + huge_charts():
            for place in list(all_places(chart))[::1 if chart.size < 6 else 9]:
                self.assertEqual(told_table(chart.size, place), door_table(chart, place))

    def test_one_and_two_lines(self):
        for place in ([], [0]):
            self.assertEqual((), door_table(Chart.fan(1), place))
        self.assertEqual([((0, 1), 1, "left")], door_list(Chart.fan(2), [1], 1))
        self.assertEqual([((0, 1), 1, "right")], door_list(Chart.fan(2), [0], 1))
        for place in ((), (1, 0)):
            self.assertEqual(((0, 0),), door_table(Chart.fan(2), place))
            self.assertEqual([], door_list(Chart.fan(2), place, 1))

    def test_all_lines_in_one_knot(self):
        chart = Chart(6, [0] * 20)
        told = ((1, 0), (2, 0), (2, 0), (2, 0), (1, 0))
        self.assertEqual(told, door_table(chart, (4, 5)))
        self.assertEqual([(tuple(range(6)), 2, "left")], door_list(chart, (4, 5), 3))

    def test_opposite_edges(self):
        """[64] What two opposite edges, or the middle one, have together."""
        for chart, place in with_places(small_charts()):
            n, j, table = chart.size, len(place), ((),) + door_table(chart, place)
            for g in range(1, n):
                if 2 * g < n:
                    self.assertEqual(2 * min(j, g, n - j), sum(table[g]) + sum(table[n - g]))
                elif 2 * g == n:
                    self.assertEqual(min(j, n - j), sum(table[g]))

    def test_same_doors(self):
        """[63] Places with as many lines and the same left doors are equal."""
        known = {}
        for chart, place in with_places(small_charts()):
            left = tuple(doors[0] for doors in door_table(chart, place))
            self.assertEqual(place, known.setdefault((chart.size, len(place), left), place))

    def test_one_line_more(self):
        """[65] What changes when a side comes in."""
        for chart, place in with_places(few_charts()):
            n, j = chart.size, len(place)
            for x in set(range(n)) - set(place):
                if is_place(chart, (*place, x)):
                    for g in range(1, n):
                        first = left_doors(chart, place, g) + (j < g) - (x < g)
                        second = right_doors(chart, place, g) + (j < g) - (x >= n - g)
                        more = [*place, x]
                        self.assertEqual((first, second), (left_doors(chart, more, g), right_doors(chart, more, g)))

    def test_loosened_charts(self):
        """[68] A loosened chart has the same doors; the pairs of a knot weigh together what it weighed."""
        for chart in [chart for chart in small_charts() + large_charts() if not chart.simple]:
            loose = whole_loosened(chart, 1)
            for place in list(all_places(chart))[::2]:
                self.assertEqual(door_table(chart, place), door_table(loose, place))
            for knot in knots_of(chart):
                if len(knot) == 3:
                    looser = loosened(chart, knot, [-1])
                    pairs = [pair for pair in every_lot(knot) if len(pair) == 2]
                    for place in list(all_places(chart))[::3]:
                        for edge in range(1, chart.size):
                            self.assertEqual(told_weight(chart, knot, place, edge),
                                             sum(Weight(place)(looser, pair, edge) for pair in pairs))

    def test_contrary_and_mirrored(self):
        """[69] The doors of the lots that belong to a place in the contrary and in the mirrored chart."""
        for chart, place in with_places(small_charts()[::2]):
            n, table = chart.size, door_table(chart, place)
            turned = tuple((right, left) for left, right in table)
            self.assertEqual(turned[::-1], door_table(-chart, [x for x in range(n) if x not in place]))
            self.assertEqual(turned, door_table(~chart, [n - 1 - x for x in place]))

    def test_refusals(self):
        for call in (left_doors, right_doors, door_list):
            self.asks_for_chart(call, None, None)
            self.asks_for_lot(call, 0)
            self.asks_for_edge(call, [0, 2])
            self.asks_for_soundness(call, [0, 2], 1)
            self.due(NotPlace, {"three": (0, 2, 3)}, call, Chart.fan(4), [3, 1, 0], 3)
            self.due(BadNumber, {"word": "edge"}, call, Chart.fan(1), [], 1)
        self.asks_for_chart(door_table, None)
        self.asks_for_lot(door_table)
        self.asks_for_soundness(door_table, [0, 2])
        self.due(NotPlace, {"three": (0, 2, 3)}, door_table, Chart.fan(4), [3, 1, 0])

    def test_new_lists_and_same_arguments(self):
        place = [2, 1]
        found = door_list(WITH_KNOT, place, 2)
        found.append(None)
        self.assertEqual([((0, 1, 2), 1, "left"), ((1, 3), 1, "right")], door_list(WITH_KNOT, place, 2))
        self.assertEqual([2, 1], place)


class WeightClassTest(DueCase):
    def test_every_small_chart(self):
        """[62] What each knot weighs at each edge, for a place."""
        for chart, place in with_places(few_charts()):
            told = Weight(place[::-1])
            self.assertEqual(place, told.lot)
            for knot in knots_of(chart):
                for edge in range(1, chart.size):
                    self.assertEqual(told_weight(chart, knot, place, edge), told(chart, list(knot[::-1]), edge))

    def test_one_lot_for_many_charts(self):
        lot = [6, 5, 0]
        told = Weight(lot)
        lot.append(3)
        self.assertEqual((0, 5, 6), told.lot)
        self.assertEqual((1, 0, 1, 0), tuple(told(-Chart.fan(7), pair, edge) for pair, edge in (
            ((1, 5), 3), ((1, 5), 4), ([6, 4], 5), ((5, 6), 6))))
        first = Weight([0])
        self.assertEqual((1, 1, 0, 0), (first(Chart.fan(2), [1, 0], 1), first(Chart.fan(16), (0, 15), 15),
                                        first(Chart.fan(16), (0, 15), 14), first(Chart.fan(16), (1, 15), 14)))
        all_told = Weight((7, 5, 6))
        self.assertEqual((1, 2, 3, 3, 3, 2, 1), tuple(
            all_told(Chart(8, [0] * 56), tuple(range(8)), edge) for edge in range(1, 8)))
        self.assertEqual((), Weight(()).lot)
        self.assertEqual(tuple(range(16)), Weight(list(range(16))[::-1]).lot)

    def test_refused_lots(self):
        for value in NO_LISTS:
            self.due(BadKind, {"word": "lot"}, Weight, value)
        for value in (*NO_INTEGERS, 16, -1):
            self.due(BadLine, {"line": value}, Weight, (3, value, 3))
        self.due(BadLine, {"line": 3}, Weight, [3, 1, 3])

    def test_refused_calls(self):
        """The kind of the chart, lines of the lot, the edge, Unsound, NotPlace, then the knot."""
        told = Weight([2, 9, 4, 0])
        for value in NO_CHARTS:
            self.due(BadKind, {"word": "chart"}, told, value, None, None)
        self.due(BadLine, {"line": 4}, told, UNSOUND, None, None)
        for value in (*NO_INTEGERS, 0, 4, -1):
            self.due(BadNumber, {"word": "edge"}, Weight([0, 2]), UNSOUND, None, value)
        self.asks_for_soundness(Weight([0, 2]), None, 1)
        self.due(NotPlace, {"three": (0, 1, 2)}, Weight([2, 0]), WITH_KNOT, None, 3)
        for value in NO_KNOTS:
            self.due(BadKind, {"word": "knot"}, Weight([1, 2]), WITH_KNOT, value, 3)


if __name__ == "__main__":
    unittest.main()
