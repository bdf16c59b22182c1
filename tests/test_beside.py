"""The module beside: points [154] to [156]."""

import unittest
from itertools import combinations
from math import comb

from bentlines.beside import beside_all, beside_of, bundle, stairs
from bentlines.charts import Chart
from bentlines.convex import convex_count
from bentlines.cups import cap_size, cup_size
from bentlines.errors import BadKind, BadLine, BadNumber, NotSimple, TooMany, Unsound
from bentlines.hulls import lower_hull
from tests.helpers import (NO_CHARTS, NO_INTEGERS, UNSOUND, WITH_KNOT, DueCase, drawn_charts, large_simple_charts,
                           simple_charts)

LATE_KNOT = Chart.fan(1) + WITH_KNOT
LATE_UNSOUND = Chart.fan(1) + UNSOUND


def told_beside(chart, other):
    """The chart beside the other one, by the words of [5]."""
    a, b = chart.size, other.size
    signs = []
    for three in combinations(range(a + b), 3):
        first = [x for x in three if x < a]
        second = [x - a for x in three if x >= a]
        if len(first) == 3:
            signs.append(chart.sign(first))
        elif len(second) == 3:
            signs.append(other.sign(second))
        else:
            signs.append(1 if len(first) == 2 else -1)
    return Chart(a + b, signs)


def told_bundle(chart, line, other):
    """The chart with the bundle, by the words of [156]."""
    m = other.size
    # What each new line was: a line of the chart, or the line itself with a line of the bundle.
    old = ([(y, None) for y in range(line)] + [(line, y) for y in range(m)]
           + [(y, None) for y in range(line + 1, chart.size)])
    signs = []
    for three in combinations(range(len(old)), 3):
        inner = [x for x in three if old[x][1] is not None]
        outer = [x for x in three if old[x][1] is None]
        if len(inner) == 3:
            signs.append(other.sign([old[x][1] for x in inner]))
        elif len(inner) == 2:
            signs.append(1 if outer[0] > inner[0] else -1)
        else:
            signs.append(chart.sign([old[x][0] for x in three]))
    return Chart(len(old), signs)


def sound_pairs():
    small = [chart for size in (1, 2, 3, 4) for chart in drawn_charts(size)]
    return [(first, second) for first in small for second in small]


def simple_pairs():
    small = [chart for size in (1, 2, 3, 4) for chart in simple_charts(size)] + simple_charts(5)[::20]
    return [(first, second) for first in small for second in small]


class BesideTest(DueCase):
    def test_every_small_pair(self):
        """[154] A beside B, which is sound, and simple if both are."""
        for first, second in sound_pairs():
            found = beside_of(first, second)
            self.assertEqual(told_beside(first, second), found)
            self.assertTrue(found.sound)
            self.assertIs(first.simple and second.simple or found.size < 3, found.simple)

    def test_numbers(self):
        """[154] Cup size, cap size, convex fours and the lower hull of A beside B."""
        for first, second in simple_pairs():
            found = beside_of(first, second)
            a, b = first.size, second.size
            self.assertEqual(max(cup_size(first) + 1, cup_size(second)), cup_size(found))
            self.assertEqual(max(cap_size(first), cap_size(second) + 1), cap_size(found))
            told = (convex_count(first) + convex_count(second) + comb(a, 2) * comb(b, 2)
                    + b * first.signs.count(1) + a * second.signs.count(-1))
            self.assertEqual(told, convex_count(found))
            self.assertLessEqual(set(lower_hull(first)), set(lower_hull(found)))

    def test_three_charts(self):
        """[154] The two ways to lay three charts differ at just the threes with one line of each."""
        small = [chart for size in (1, 2, 3) for chart in drawn_charts(size)] + drawn_charts(4)[::8]
        for first in small:
            for second in small:
                for third in small[::2]:
                    left = beside_all(first, second, third)
                    right = beside_of(first, beside_of(second, third))
                    a, b = first.size, first.size + second.size
                    self.assertEqual(beside_of(beside_of(first, second), third), left)
                    for i, j, k in combinations(range(left.size), 3):
                        told = (1, -1) if i < a <= j < b <= k else (left[i, j, k],) * 2
                        self.assertEqual(told, (left[i, j, k], right[i, j, k]))

    def test_many(self):
        one = Chart.fan(1)
        self.assertEqual(Chart.fan(16), beside_all(*[one] * 16))
        found = beside_all(WITH_KNOT)
        self.assertEqual(WITH_KNOT, found)
        self.assertIsInstance(found, Chart)
        self.assertEqual(16, beside_of(Chart.fan(15), one).size)
        self.assertEqual(one + one + WITH_KNOT + Chart.fan(3), beside_all(one, one, WITH_KNOT, Chart.fan(3)))

    def test_refusals(self):
        self.due(BadKind, {"word": "charts"}, beside_all)
        for value in NO_CHARTS:
            for call in (beside_of, beside_all):
                self.due(BadKind, {"word": "chart"}, call, value, UNSOUND)
                self.due(BadKind, {"word": "chart"}, call, UNSOUND, value)
            self.due(BadKind, {"word": "chart"}, beside_all, value)
            self.due(BadKind, {"word": "chart"}, beside_all, UNSOUND, Chart.fan(16), value)
        for call in (beside_of, beside_all):
            self.due(TooMany, {"word": "lines"}, call, UNSOUND, Chart.fan(13))
            self.due(TooMany, {"word": "lines"}, call, Chart.fan(13), UNSOUND)
            self.due(Unsound, {"four": (0, 1, 2, 3)}, call, UNSOUND, LATE_UNSOUND)
            self.due(Unsound, {"four": (1, 2, 3, 4)}, call, LATE_UNSOUND, UNSOUND)
            self.due(Unsound, {"four": (0, 1, 2, 3)}, call, Chart.fan(4), UNSOUND)
            self.asks_for_soundness(call, Chart.fan(2))
        self.asks_for_soundness(beside_all)
        self.due(TooMany, {"word": "lines"}, beside_all, *[Chart.fan(1)] * 17)
        self.due(Unsound, {"four": (0, 1, 2, 3)}, beside_all, Chart.fan(3), Chart.fan(2), UNSOUND, LATE_UNSOUND)


class StairsTest(DueCase):
    def test_numbers(self):
        """[155] Sound and simple, with so many lines, and with these cup and cap sizes."""
        for a in range(1, 17):
            for b in range(1, 17):
                many = comb(a + b - 2, a - 1)
                if many > 16:
                    self.due(TooMany, {"word": "lines"}, stairs, a, b)
                    continue
                chart = stairs(a, b)
                self.assertEqual((many, True, True), (chart.size, chart.sound, chart.simple))
                if a >= 2 and b >= 2:
                    self.assertEqual((a, b), (cup_size(chart), cap_size(chart)))
                    self.assertEqual(told_beside(stairs(a - 1, b), stairs(a, b - 1)), chart)
                else:
                    self.assertEqual(Chart(1, []), chart)

    def test_great_numbers(self):
        self.assertEqual([Chart.fan(1)] * 2, [stairs(1, 10 ** 200), stairs(10 ** 200, 1)])
        self.assertEqual(16, stairs(2, 16).size)
        for a, b in ((2, 17), (17, 2), (10 ** 200, 2), (10 ** 200, 10 ** 200), (4, 4), (3, 6)):
            self.due(TooMany, {"word": "lines"}, stairs, a, b)

    def test_refusals(self):
        for value in (*NO_INTEGERS, 0, -1):
            self.due(BadNumber, {"word": "cup"}, stairs, value, None)
            self.due(BadNumber, {"word": "cap"}, stairs, 1, value)
            self.due(BadNumber, {"word": "cap"}, stairs, 30, value)


class BundleTest(DueCase):
    def test_every_small_pair(self):
        """[156] The bundle; it is D, and with one line of it the rest is C."""
        for first, second in simple_pairs():
            m = second.size
            for line in range(first.size):
                found = bundle(first, line, second)
                self.assertEqual(told_bundle(first, line, second), found)
                self.assertEqual((True, True), (found.sound, found.simple))
                self.assertEqual(second, found.part(list(range(line, line + m))))
                others = [x for x in range(found.size) if not line <= x < line + m]
                for x in range(line, line + m):
                    self.assertEqual(first, found.part([*others, x]))

    def test_larger_charts(self):
        for chart in large_simple_charts()[::3]:
            for line in (0, 3, chart.size - 1):
                self.assertEqual(told_bundle(chart, line, -Chart.fan(5)), bundle(chart, line, -Chart.fan(5)))
                self.assertEqual(chart, bundle(chart, line, Chart.fan(1)))
                self.assertEqual(chart, bundle(Chart.fan(1), 0, chart))
        self.assertEqual(16, bundle(Chart.fan(8), 7, Chart.fan(9)).size)

    def test_refusals(self):
        for value in NO_CHARTS:
            self.due(BadKind, {"word": "chart"}, bundle, value, None, None)
            self.due(BadKind, {"word": "chart"}, bundle, UNSOUND, 3, value)
        for value in (*NO_INTEGERS, 4, -1):
            self.due(BadLine, {"line": value}, bundle, UNSOUND, value, None)
        self.due(TooMany, {"word": "lines"}, bundle, UNSOUND, 3, Chart.fan(14))
        self.due(TooMany, {"word": "lines"}, bundle, Chart.fan(16), 3, WITH_KNOT)
        self.asks_for_simplicity(bundle, 0, Chart.fan(2))
        self.asks_for_simplicity(lambda chart: bundle(Chart.fan(3), 1, chart))
        self.due(Unsound, {"four": (1, 2, 3, 4)}, bundle, LATE_UNSOUND, 0, UNSOUND)
        # A chart that is not sound is told ahead of one that is not simple, wherever it stands.
        self.due(Unsound, {"four": (0, 1, 2, 3)}, bundle, WITH_KNOT, 0, UNSOUND)
        self.due(NotSimple, {"knot": (1, 2, 3)}, bundle, LATE_KNOT, 0, WITH_KNOT)
        self.due(NotSimple, {"knot": (0, 1, 2)}, bundle, WITH_KNOT, 0, LATE_KNOT)


if __name__ == "__main__":
    unittest.main()
