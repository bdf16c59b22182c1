"""The module polygons: points [157] to [160]; what turned triangles change about cups and caps as well."""

import unittest
from itertools import combinations
from math import comb, prod

from bentlines.charts import Chart
from bentlines.convex import convex_count
from bentlines.cups import cap_size, cup_size, is_cap, is_cup
from bentlines.errors import BadLine, BadNumber
from bentlines.fours import is_convex
from bentlines.hulls import hull
from bentlines.polygons import is_round, most_between, most_round, round_marks, round_size
from bentlines.triangles import triangles, turned_over
from tests.helpers import (NO_INTEGERS, UNSOUND, DueCase, built_charts, every_lot, huge_simple_charts,
                           large_simple_charts, middle_charts, simple_charts, small_simple_charts, some_simple_charts)
from tests.test_cups import NO_SIGNS, told_bow


def told_round(chart, lot):
    """Whether each four of the lot is convex, by the words of [157]."""
    return all(is_convex(chart, four) for four in combinations(lot, 4))


def soon_round(chart, lot):
    """The same, by the signs of each four ([108]); quick in charts of many lines."""
    return all(prod(chart.sign(three) for three in combinations(four, 3)) == 1 for four in combinations(lot, 4))


def told_marks(chart, lot):
    """The marks of a round lot of three points or more: the sign of each point as the middle one."""
    return tuple(chart.sign((lot[0], j, lot[-1])) for j in lot[1:-1])


def some_charts():
    return small_simple_charts() + large_simple_charts()[::3]


class RoundTest(DueCase):
    def test_every_lot(self):
        """[157] Round lots by fours, and their marks."""
        for chart in some_charts():
            for lot in every_lot(range(chart.size)):
                told = told_round(chart, lot)
                self.assertEqual((told, told), (is_round(chart, lot[::-1]), soon_round(chart, lot)))
                marks = round_marks(chart, list(lot))
                if told and len(lot) >= 3:
                    self.assertEqual(told_marks(chart, lot), marks)
                    for at, j in enumerate(lot[1:-1], start=1):
                        signs = {chart[i, j, k] for i in lot[:at] for k in lot[at + 1:]}
                        self.assertEqual({marks[at - 1]}, signs)
                else:
                    self.assertIsNone(marks)

    def test_cups_and_caps_of_a_round_lot(self):
        """[158] A round lot is a cup and a cap with the same two ends, and the other way round."""
        for chart in simple_charts(4) + simple_charts(5)[::3] + some_simple_charts(7, 2):
            lots = [lot for lot in every_lot(range(chart.size)) if len(lot) > 1]
            told = set()
            for cup in lots:
                for cap in lots:
                    if (cup[0], cup[-1]) == (cap[0], cap[-1]) and is_cup(chart, cup) and is_cap(chart, cap):
                        self.assertEqual({cup[0], cup[-1]}, set(cup) & set(cap))
                        told.add(tuple(sorted(set(cup) | set(cap))))
            self.assertEqual(told, {lot for lot in lots if is_round(chart, lot)})
            for lot in told:
                marks = round_marks(chart, lot) or ()
                for sign, call in ((1, is_cup), (-1, is_cap)):
                    marked = [j for j, mark in zip(lot[1:-1], marks) if mark == sign]
                    self.assertTrue(call(chart, [lot[0], *marked, lot[-1]]))

    def test_charts_told_by_the_middle(self):
        """[157] [158] All points are a round lot, and their marks are the signs."""
        for chart, signs in middle_charts():
            n = chart.size
            self.assertEqual(signs, round_marks(chart, list(range(n))[::-1]))
            self.assertEqual((tuple(range(n)), n), (most_round(chart), round_size(chart)))
            for sign in (1, -1):
                self.assertEqual(2 + signs[3:-1].count(sign), most_between(chart, 3, n - 2, sign))

    def test_built_charts(self):
        """[157] [159] Bricks, stairs and the fan: a round lot, as great as the bounds ask."""
        for chart in [chart for chart in built_charts() if chart.simple]:
            found, n = most_round(chart), chart.size
            self.assertTrue(soon_round(chart, found))
            self.assertGreaterEqual(convex_count(chart), comb(len(found), 4))
            self.assertIs(len(found) == n, convex_count(chart) == comb(n, 4))
            for m in range(3, 6):
                self.assertTrue(len(found) >= m or n <= comb(2 * m - 4, m - 2))

    def test_refusals(self):
        for call in (is_round, round_marks):
            self.asks_for_chart(call, None)
            self.asks_for_lot(call)
            self.asks_for_simplicity(call, [0])
            for lot in ([], [2], (1, 0)):
                self.assertEqual((True, None)[call is round_marks], call(Chart.fan(3), lot))


class MostTest(DueCase):
    def test_every_small_chart(self):
        """[157] As many points as there can be."""
        for chart in some_charts():
            told = max(len(lot) for lot in every_lot(range(chart.size)) if told_round(chart, lot))
            found = most_round(chart)
            self.assertEqual(tuple(sorted(set(found))), found)
            self.assertTrue(told_round(chart, found))
            self.assertEqual((told, told), (len(found), round_size(chart)))

    def test_between(self):
        """[158] The longest cups and caps with two ends, and what they tell about the round size."""
        for chart in some_charts():
            best = []
            for u, w in combinations(range(chart.size), 2):
                told = [max(len(lot) + 2 for lot in every_lot(range(u + 1, w)) if told_bow(chart, (u, *lot, w), sign))
                        for sign in (1, -1)]
                self.assertEqual(told, [most_between(chart, u, w, sign) for sign in (1, -1)])
                best.append(sum(told) - 2)
            self.assertEqual(max(best, default=1), round_size(chart))

    def test_huge_charts(self):
        """[158] In larger charts the two ways to tell the round size agree, and the lot is round."""
        for chart in huge_simple_charts():
            found = most_round(chart)
            self.assertEqual(round_size(chart), len(found))
            self.assertTrue(soon_round(chart, found))
        for chart in huge_simple_charts()[:2]:
            best = [sum(most_between(chart, u, w, sign) for sign in (1, -1)) - 2
                    for u, w in combinations(range(chart.size), 2)]
            self.assertEqual(max(best), round_size(chart))

    def test_bounds(self):
        """[159] What so many points hold at least."""
        for chart in some_charts() + huge_simple_charts():
            n, size, many = chart.size, round_size(chart), convex_count(chart)
            for m in range(3, size + 2):
                if n > comb(2 * m - 4, m - 2):
                    self.assertGreaterEqual(size, m)
            self.assertIs(size == n, many == comb(n, 4))
            self.assertGreaterEqual(many, comb(size, 4))
            self.assertTrue(many == 0 or size >= 4)
            if n >= 5:
                self.assertGreaterEqual(many, 1)
            if n >= 2:
                self.assertGreaterEqual(cup_size(chart) + cap_size(chart), 2 + len(hull(chart)))

    def test_turned_triangles(self):
        """[160] A turned triangle changes the three sizes by at most 1, and the cup and the cap size one way."""
        for chart in some_charts() + huge_simple_charts()[:1]:
            now = (cup_size(chart), cap_size(chart), round_size(chart))
            for three in triangles(chart):
                made = turned_over(chart, three)
                then = (cup_size(made), cap_size(made), round_size(made))
                self.assertTrue(all(abs(a - b) <= 1 for a, b in zip(now, then)))
                sign = chart.sign(three)
                self.assertLessEqual((then[0] - now[0]) * sign, 0)
                self.assertGreaterEqual((then[1] - now[1]) * sign, 0)

    def test_few_lines(self):
        self.assertEqual(((0,), 1), (most_round(Chart.fan(1)), round_size(Chart.fan(1))))
        self.assertEqual(((0, 1), 2), (most_round(Chart.fan(2)), round_size(Chart.fan(2))))
        self.assertEqual(2, most_between(Chart.fan(2), 0, 1, -1))
        self.assertEqual((16, 2), (most_between(Chart.fan(16), 0, 15, 1), most_between(Chart.fan(16), 0, 15, -1)))

    def test_refusals(self):
        for call in (most_round, round_size):
            self.asks_for_chart(call)
            self.asks_for_simplicity(call)
        for value in (*NO_INTEGERS, 4, -1):
            self.due(BadLine, {"line": value}, most_between, UNSOUND, value, None, None)
            self.due(BadLine, {"line": value}, most_between, UNSOUND, 1, value, None)
        for last in (0, 1):
            self.due(BadLine, {"line": last}, most_between, UNSOUND, 1, last, None)
        for value in NO_SIGNS:
            self.due(BadNumber, {"word": "sign"}, most_between, UNSOUND, 1, 3, value)
        self.asks_for_chart(most_between, None, None, None)
        self.asks_for_simplicity(most_between, 0, 1, 1)

    def test_arguments_stay(self):
        lot = [2, 0, 1]
        self.assertEqual((True, (1,)), (is_round(Chart.fan(3), lot), round_marks(Chart.fan(3), lot)))
        self.assertEqual([2, 0, 1], lot)


if __name__ == "__main__":
    unittest.main()
