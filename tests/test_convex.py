"""The module convex: points [108] to [112] and [114]."""

import unittest
from itertools import product
from math import comb

from bentlines.arms import arms
from bentlines.charts import Chart
from bentlines.convex import (by_middle, convex_by_edges, convex_by_shallow, convex_change, convex_count,
                              least_convex, middle_signs)
from bentlines.errors import BadKind, BadNumber, BadSigns
from bentlines.hulls import hull, lower_hull
from bentlines.shallow import shallow, shallow_least, shallow_list
from bentlines.triangles import triangles, turned_over
from tests.helpers import (NO_INTEGERS, NO_LISTS, DueCase, huge_simple_charts, large_simple_charts, lots,
                           simple_charts, small_simple_charts, some_simple_charts)
from tests.test_fours import told_within

COUNTING = (convex_count, convex_by_edges, convex_by_shallow)


def charts():
    return small_simple_charts() + large_simple_charts()


def told_convex(chart):
    """How many fours have no point within the three others, by the words of [106]."""
    return len([four for four in lots(chart.size, 4)
                if not any(told_within(chart, p, [x for x in four if x != p]) for p in four)])


def told_middle(chart):
    """The signs by the middle, by the words of [111], or None."""
    n = chart.size
    if n < 3:
        return None
    signs = [{chart.sign((i, j, k)) for i in range(j) for k in range(j + 1, n)} for j in range(1, n - 1)]
    return tuple(found.pop() for found in signs) if all(len(found) == 1 for found in signs) else None


class CountTest(DueCase):
    def test_every_small_chart(self):
        """[109] Counted, told by the edges, told by the shallow numbers; [114] in the contrary and mirrored chart."""
        for chart in charts():
            told = told_convex(chart)
            self.assertEqual([told] * 3, [call(chart) for call in COUNTING])
            self.assertEqual([told, told], [convex_count(-chart), convex_count(~chart)])

    def test_huge_charts(self):
        for chart in huge_simple_charts():
            told = convex_count(chart)
            self.assertEqual([told, told], [convex_by_edges(chart), convex_by_shallow(chart)])
        self.assertEqual([1820] * 3, [call(Chart.fan(16)) for call in COUNTING])

    def test_few_lines(self):
        for call in COUNTING:
            self.assertEqual([0, 0, 0, 1, 5], [call(Chart.fan(size)) for size in (1, 2, 3, 4, 5)])

    def test_refusals(self):
        for call in COUNTING:
            self.asks_for_chart(call)
            self.asks_for_simplicity(call)


class LeastTest(DueCase):
    def test_known_numbers(self):
        """[110] Z(n), for any number of points."""
        self.assertEqual([0, 0, 0, 0, 1, 3, 9, 18, 36, 60], [least_convex(n) for n in range(1, 11)])
        n = 10 ** 60
        self.assertEqual(n // 2 * (n // 2 - 1) ** 2 * (n // 2 - 2) // 4, least_convex(n))
        self.assertEqual((n // 2) ** 2 * (n // 2 - 1) ** 2 // 4, least_convex(n + 1))
        for value in (*NO_INTEGERS, 0, -1):
            self.due(BadNumber, {"word": "size"}, least_convex, value)

    def test_bounds(self):
        """[110] Never less; equal exactly if all shallow numbers are least; more by the points on the hull."""
        for chart in charts() + huge_simple_charts()[:2]:
            n, many = chart.size, convex_count(chart)
            tight = all(shallow(chart, k) == shallow_least(k) for k in range(n) if 2 * k < n - 1)
            self.assertGreaterEqual(many, least_convex(n))
            self.assertIs(tight, many == least_convex(n))
            if n >= 3:
                bound = least_convex(n) + (n - 3) * (len(hull(chart)) - 3)
                self.assertGreaterEqual(many, bound)
                if n <= 5:
                    self.assertEqual(many, bound)

    def test_arms(self):
        """[110] Arms have the least number, whatever their inner charts are, or the one that is told."""
        for a, b, c in ((2, 1, 1), (2, 2, 1), (2, 2, 2), (3, 2, 2), (3, 3, 3)):
            for inner in product(*[simple_charts(size) for size in (a, b, c)]):
                self.assertEqual(least_convex(a + b + c), convex_count(arms(a, b, c, inner=inner)))
        for inner in product(simple_charts(3), simple_charts(3)):
            chart = arms(3, 3, 2, inner=inner)
            self.assertEqual(shallow(chart, 3), convex_count(chart))


class ChangeTest(DueCase):
    def test_every_small_chart(self):
        """[112] By how much the number grows, and that its parity is told."""
        for chart in charts() + huge_simple_charts()[:1]:
            many, n = convex_count(chart), chart.size
            for three in triangles(chart):
                self.assertEqual(convex_count(turned_over(chart, three)) - many, convex_change(chart, three[::-1]))
            self.assertEqual(0, (many - comb(n, 4) - (chart.signs.count(-1) if n % 2 == 0 else 0)) % 2)

    def test_known_charts(self):
        self.assertEqual((0, 0), (convex_change(Chart.fan(3), (0, 1, 2)), convex_change(-Chart.fan(3), (0, 1, 2))))
        self.assertEqual((-13, -13), (convex_change(Chart.fan(16), (0, 1, 2)),
                                      convex_change(Chart.fan(16), (15, 14, 13))))
        self.assertEqual(-13, convex_change(-Chart.fan(16), [0, 1, 2]))

    def test_refusals(self):
        self.asks_for_triangle(convex_change)


class MiddleTest(DueCase):
    def test_every_small_chart(self):
        """[111] The signs by the middle exactly if all fours are convex, exactly if all points are on the hull."""
        for chart in charts() + huge_simple_charts():
            told = told_middle(chart)
            self.assertEqual(told, middle_signs(chart))
            if chart.size >= 4:
                self.assertIs(told is not None, convex_by_edges(chart) == comb(chart.size, 4))
                self.assertIs(told is not None, len(hull(chart)) == chart.size)

    def test_all_signs(self):
        """[111] Any signs give a chart, and it is sound."""
        for many in (1, 2, 3, 4, 5):
            for signs in product((1, -1), repeat=many):
                chart = by_middle(list(signs))
                self.assertEqual((many + 2, True), (chart.size, chart.sound))
                self.assertEqual((signs, signs), (told_middle(chart), middle_signs(chart)))
                plus = [j for j, sign in enumerate(signs, 1) if sign > 0]
                self.assertEqual((0, *plus, many + 1), lower_hull(chart))
                n = chart.size
                self.assertEqual(tuple(k * n for k in range(n) if 2 * k < n), shallow_list(chart))
        signs = tuple(some_simple_charts(5, 1)[0].signs[:7] * 2)
        self.assertEqual(signs, middle_signs(by_middle(signs)))
        self.assertEqual(Chart.fan(16), by_middle([1] * 14))

    def test_few_points(self):
        self.assertEqual([None, None, (1,)], [middle_signs(Chart.fan(size)) for size in (1, 2, 3)])
        self.assertEqual("-", by_middle((-1,)).marks)

    def test_refusals(self):
        self.asks_for_chart(middle_signs)
        self.asks_for_simplicity(middle_signs)
        for value in NO_LISTS:
            self.due(BadKind, {"word": "signs"}, by_middle, value)
        for value in ([], (), [1] * 15, [0] * 16):
            self.due(BadSigns, {"at": -1}, by_middle, value)
        for value in (*NO_INTEGERS, 0, 2, -2):
            self.due(BadSigns, {"at": 0}, by_middle, [value])
            self.due(BadSigns, {"at": 2}, by_middle, (1, -1, value, value))

    def test_arguments_stay(self):
        signs = [1, -1, 1]
        by_middle(signs)
        self.assertEqual([1, -1, 1], signs)


if __name__ == "__main__":
    unittest.main()
