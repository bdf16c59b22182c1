"""The module turnings: points [81] to [83]."""

import unittest

from bentlines.charts import Chart
from bentlines.errors import BadKind, BadLine, BadNumber, Degenerate, NotSimple, NotTriangle, Unsound
from bentlines.triangles import is_triangle, triangles, turned_over
from bentlines.turnings import behind_way, both_ways, bounds, differ, is_way, some_way, way_to_fan
from tests.helpers import (NO_CHARTS, NO_INTEGERS, NO_LISTS, UNSOUND, WITH_KNOT, DueCase, huge_simple_charts,
                           large_simple_charts, lots, simple_charts, small_simple_charts)

OF_TWO = (differ, some_way, bounds)


def told_behind(chart, way):
    """The chart behind a way, one triangle after the other."""
    for three in way:
        chart = turned_over(chart, three)
    return chart


def every_pair():
    """All pairs of simple charts of up to four lines, some of five lines and of more."""
    found = [(first, second) for size in (1, 2, 3, 4) for first in simple_charts(size)
             for second in simple_charts(size)]
    found += [(first, second) for first in simple_charts(5)[::4] for second in simple_charts(5)[::3]]
    return found + [(first, second) for first in large_simple_charts() for second in large_simple_charts()[::3]
                    if first.size == second.size]


class WayToFanTest(DueCase):
    def test_every_small_chart(self):
        """[81] As many threes as signs are unlike, none twice."""
        for chart in small_simple_charts() + large_simple_charts():
            for sign in (1, -1):
                way = way_to_fan(chart, sign)
                self.assertEqual([three for three in lots(chart.size, 3) if chart.sign(three) != sign], sorted(way))
                self.assertEqual(Chart(chart.size, [sign] * len(chart.signs)), told_behind(chart, way))

    def test_huge_charts(self):
        for chart in huge_simple_charts()[1:]:
            way = way_to_fan(chart)
            self.assertEqual(chart.signs.count(-1), len(way))
            self.assertEqual(Chart.fan(chart.size), behind_way(chart, way))
        self.assertEqual(560, len(way_to_fan(-Chart.fan(16))))
        self.assertEqual([], way_to_fan(-Chart.fan(16), -1))

    def test_new_lists(self):
        chart = Chart.told(4, "--++")
        way = way_to_fan(chart)
        way.append(None)
        self.assertEqual([(0, 1, 3), (0, 1, 2)], way_to_fan(chart, 1))

    def test_refusals(self):
        self.asks_for_chart(way_to_fan)
        for value in (*NO_INTEGERS, 0, 2, -2):
            self.due(BadNumber, {"word": "sign"}, way_to_fan, UNSOUND, value)
        self.asks_for_simplicity(way_to_fan)
        self.asks_for_simplicity(way_to_fan, -1)


class WaysTest(DueCase):
    def test_all_short_sequences(self):
        """[81] A way has at each time a triangle of the chart that is left."""
        for chart in simple_charts(4) + simple_charts(5)[::15]:
            threes = lots(chart.size, 3)
            for sequence in [[]] + [[a] for a in threes] + [[a, b] for a in threes for b in threes]:
                left, wrong = chart, None
                for three in sequence:
                    if not is_triangle(left, three):
                        wrong = three
                        break
                    left = turned_over(left, three)
                given = [three[::-1] for three in sequence]
                self.assertIs(wrong is None, is_way(chart, given))
                if wrong is None:
                    self.assertEqual(left, behind_way(chart, tuple(given)))
                else:
                    self.assertIs(False, is_way(chart, tuple(given)))
                    self.due(NotTriangle, {"three": wrong}, behind_way, chart, given)

    def test_there_and_back(self):
        for chart in small_simple_charts()[::7] + large_simple_charts()[::5]:
            way = way_to_fan(chart)
            self.assertEqual(chart, behind_way(chart, way + way[::-1]))
            for three in triangles(chart):
                self.assertEqual(turned_over(chart, three), behind_way(chart, [three] * 5))
                self.assertEqual(chart, behind_way(chart, [three] * 4))

    def test_known_ways(self):
        for chart in (Chart.fan(1), Chart.fan(2)):
            self.assertEqual((True, chart), (is_way(chart, []), behind_way(chart, ())))
        fan = Chart.fan(4)
        self.assertIs(True, is_way(fan, [[0, 2, 1], (0, 1, 3)]))
        self.due(NotTriangle, {"three": (1, 2, 3)}, behind_way, fan, [[2, 1, 0], [3, 2, 1], [2, 0, 3]])

    def test_refusals(self):
        for call in (is_way, behind_way):
            self.asks_for_chart(call, None)
            for value in NO_LISTS:
                self.due(BadKind, {"word": "threes"}, call, UNSOUND, value)
            for value in (*NO_LISTS, [], (0, 1), [0, 1, 2, 3]):
                self.due(BadKind, {"word": "three"}, call, UNSOUND, [(2, 1, 0), value, (0, 0, 0)])
            for value in (*NO_INTEGERS, 4, -1):
                self.due(BadLine, {"line": value}, call, UNSOUND, ([0, 3, 1], (0, value, 9), None))
            self.due(BadLine, {"line": 3}, call, UNSOUND, [(3, 1, 3)])
            self.asks_for_simplicity(call, [(0, 1, 2), (0, 1, 2)])

    def test_arguments_stay(self):
        threes = [[2, 0, 1], [3, 1, 0]]
        behind_way(Chart.fan(4), threes)
        is_way(Chart.fan(4), threes)
        self.assertEqual([[2, 0, 1], [3, 1, 0]], threes)


class TwoChartsTest(DueCase):
    def test_every_pair(self):
        """[82] A way of min(p, q) threes by the chart with one sign everywhere; bounds and differences."""
        for chart, other in every_pair():
            p, q = [(chart.signs + other.signs).count(sign) for sign in (1, -1)]
            d = len([at for at, sign in enumerate(chart.signs) if other.signs[at] != sign])
            self.assertEqual((d, (d, min(p, q))), (differ(chart, other), bounds(chart, other)))
            way = some_way(chart, other)
            self.assertEqual(min(p, q), len(way))
            self.assertEqual(0, (len(way) - d) % 2)
            middle = Chart(chart.size, [1 if q <= p else -1] * len(chart.signs))
            many = chart.signs.count(-1 if q <= p else 1)
            self.assertEqual(middle, behind_way(chart, way[:many]))
            self.assertEqual(other, behind_way(chart, way))

    def test_huge_charts(self):
        first, second = huge_simple_charts()[3:5]
        self.assertEqual(second, behind_way(first, some_way(first, second)))
        fan = Chart.fan(16)
        self.assertEqual((560, (560, 560)), (differ(fan, -fan), bounds(fan, -fan)))
        self.assertEqual(([], 560), (some_way(-fan, -fan), len(some_way(fan, -fan))))

    def test_small_charts(self):
        for size in (1, 2):
            one = Chart.fan(size)
            self.assertEqual((0, [], (0, 0)), (differ(one, one), some_way(one, one), bounds(one, one)))
        chart = Chart.told(4, "--++")
        self.assertEqual((0, (0, 4)), (differ(chart, chart), bounds(chart, Chart.told(4, "--++"))))
        for _ in range(2):
            way = some_way(chart, chart)
            self.assertEqual([(0, 1, 3), (0, 1, 2), (0, 1, 2), (0, 1, 3)], way)
            way.append(None)

    def test_refusals(self):
        knot = Chart(3, [0])
        for call in OF_TWO:
            self.asks_for_chart(call, None)
            for value in NO_CHARTS:
                self.due(BadKind, {"word": "chart"}, call, UNSOUND, value)
                self.due(BadKind, {"word": "chart"}, call, value, UNSOUND)
            self.asks_for_soundness(call, knot)
            self.due(Unsound, {"four": (1, 2, 3, 4)}, call, WITH_KNOT, Chart.fan(1) + UNSOUND)
            self.due(NotSimple, {"knot": (0, 1, 2)}, call, WITH_KNOT, Chart(4, [0] * 4))
            self.due(NotSimple, {"knot": (0, 1, 2)}, call, Chart.fan(4), knot)
            for size in (1, 2, 4):
                self.due(Degenerate, {"word": "size"}, call, Chart.fan(3), Chart.fan(size))


class BothWaysTest(DueCase):
    def test_every_small_chart(self):
        """[83] Both orders lead to one chart, or neither is a way, as the two have lines in common."""
        for chart in small_simple_charts() + large_simple_charts()[::3]:
            found = triangles(chart)
            for three in found:
                for other in found:
                    many = len(set(three) & set(other))
                    told = (None, None)
                    if many != 2:
                        told = (told_behind(chart, [three, other]), told_behind(chart, [other, three]))
                        self.assertEqual(*told)
                    self.assertEqual(told, both_ways(chart, three[::-1], list(other)))
                    self.assertIs(many != 2, is_way(chart, [three, other]))
                    if many == 3:
                        self.assertEqual((chart, chart), told)

    def test_refusals(self):
        self.asks_for_chart(both_ways, None, None)
        self.asks_for_three(both_ways, None)
        for value in (*NO_LISTS, [], [0, 1], (0, 1, 2, 3)):
            self.due(BadKind, {"word": "three"}, both_ways, UNSOUND, (0, 1, 2), value)
        for value in (*NO_INTEGERS, 4, -1):
            self.due(BadLine, {"line": value}, both_ways, UNSOUND, [2, 1, 0], (0, value, 9))
        self.asks_for_simplicity(both_ways, (0, 1, 3), (0, 1, 3))
        fan = Chart.fan(4)
        self.due(NotTriangle, {"three": (0, 1, 3)}, both_ways, fan, (3, 1, 0), (0, 2, 3))
        self.due(NotTriangle, {"three": (0, 2, 3)}, both_ways, fan, (2, 1, 0), (3, 2, 0))


if __name__ == "__main__":
    unittest.main()
