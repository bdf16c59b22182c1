"""The module closings: points [84] to [87]."""

import unittest

from bentlines.charts import Chart
from bentlines.closings import closing_by_names, closing_place, closing_sides, stretches, triangle_sum
from bentlines.errors import BadKind, BadLine, BadNumber, NotPlace
from bentlines.places import all_places
from bentlines.sides import is_bounded, lower_sides, upper_sides
from bentlines.triangles import triangles
from tests.helpers import (NO_INTEGERS, NO_LISTS, UNSOUND, WITH_KNOT, DueCase, huge_simple_charts,
                           large_simple_charts, small_simple_charts, told_above, told_meeting)


def charts():
    return small_simple_charts() + large_simple_charts()[::3]


def told_closing(chart, place):
    """The closing sides of a place with the stretches that they are, by the words of [84]."""
    if not is_bounded(chart, place):
        return {}
    upper = upper_sides(chart, place)
    around = upper + lower_sides(chart, place)[::-1]
    found = {}
    for at, side in enumerate(around):
        first, second = around[at - 1], around[(at + 1) % len(around)]
        meet_below = side in told_above(chart, first, second)
        if meet_below == (side in place):
            # Going round, the upper sides are passed from left to right, the lower ones from right to left.
            found[side] = (first, second) if side in upper else (second, first)
    return found


class ClosingTest(DueCase):
    def test_every_small_chart(self):
        """[84] [85] The sides whose neighbours meet on the place's side, told by names as well."""
        for chart in charts():
            for place in all_places(chart):
                told = tuple(sorted(told_closing(chart, place)))
                self.assertEqual(told, closing_sides(chart, place[::-1]))
                if is_bounded(chart, place):
                    upper, lower = upper_sides(chart, place), lower_sides(chart, place)
                    self.assertEqual(told, closing_by_names(upper, list(lower)))
                    many = len(upper) + len(lower)
                    self.assertIn(len(told), {3: (3,), 4: (2,)}.get(many, (0, 1, 2)))

    def test_all_together(self):
        """[86] n * (n - 2) closing sides, each stretch of each line just one."""
        for chart in charts()[1:] + huge_simple_charts()[:2]:
            told = sum(len(closing_sides(chart, place)) for place in all_places(chart))
            self.assertEqual(chart.size * (chart.size - 2), told)

    def test_few_lines(self):
        for chart in (Chart.fan(1), Chart.fan(2)):
            for place in all_places(chart):
                self.assertEqual((), closing_sides(chart, place))
        self.assertEqual((0, 1, 2), closing_sides(Chart.fan(3), [1]))
        self.assertEqual((), closing_sides(Chart.fan(3), [2]))

    def test_refusals(self):
        self.asks_for_chart(closing_sides, None)
        self.asks_for_lot(closing_sides)
        self.asks_for_simplicity(closing_sides, [0, 2])
        self.due(NotPlace, {"three": (0, 2, 3)}, closing_sides, Chart.fan(4), [3, 1, 0])


class NamesTest(DueCase):
    def test_rules(self):
        """[85] One side in a row; the first and the last side of longer rows."""
        known = {((1,), (0, 2)): (0, 1, 2), ((2, 0), (1,)): (0, 1, 2), ((4, 2, 0), (1, 3)): (),
                 ((9, 1, 0), (2, 3)): (9,), ((9, 8, 0), (1, 7)): (0,), ((9, 8), (1, 30)): (1, 30),
                 ((50, 40, 30), (-7, 60)): (-7, 60), ((3, -5), (-6, 2, 4)): (), ((5, 4), (0, 7)): (0, 7),
                 ((5, 1, 0), (2, 3, 9)): (5,), ((7, 6, 0), (1, 2, 5)): (0,), ((7, 3), (1, 2, 4, 5)): (3,)}
        for (upper, lower), told in known.items():
            found = closing_by_names(upper, lower)
            self.assertEqual(told, found, (upper, lower))
            # Upside down, with all names negated, the rows change places.
            self.assertEqual(tuple(sorted(-x for x in found)),
                             closing_by_names([-x for x in lower], [-x for x in upper]))

    def test_lines_beyond_all_bounds(self):
        huge = 10 ** 200
        self.assertEqual((-huge, 0, huge), closing_by_names([0], (-huge, huge)))

    def test_refused_rows(self):
        for value in (*NO_LISTS, [], (), [True], [2, "1"], (3, 2, None), [1, 1], [2, 3], (5, 3, 4), [5, 3, 3]):
            self.due(BadKind, {"word": "upper"}, closing_by_names, value, None)
        for value in (*NO_LISTS, [], (), [False], [1, "2"], (3, None), [1, 1], [3, 2], (5, 7, 6), [1, 3, 3]):
            self.due(BadKind, {"word": "lower"}, closing_by_names, [3, 2], value)

    def test_refused_pairs_of_rows(self):
        for upper, lower in (([1], [0]), ([2], [2]), ([3, 1], [0, 1]), ([4, 2, 1], [0, 2, 3]), ([3, 1], [3]),
                             ([1, 0], [2]), ([1, 0], [2, 3]), ([4, 3], [1, 2]), ([3], [0, 2]), ([3, 2], [1])):
            self.due(BadKind, {"word": "sides"}, closing_by_names, upper, lower)


class StretchesTest(DueCase):
    def test_every_small_chart(self):
        """[84] [86] The neighbours in the order met; each is a closing side of the one place that is told."""
        for chart in charts():
            known = {}
            for place in all_places(chart):
                for side in told_closing(chart, place).items():
                    self.assertEqual(place, known.setdefault(side, place))
            for line in range(chart.size):
                way = told_meeting(chart, line)
                told = tuple(zip(way, way[1:]))
                self.assertEqual(told, stretches(chart, line))
                for stretch in told:
                    self.assertEqual(known.pop((line, stretch)), closing_place(chart, line, list(stretch)))
            self.assertEqual({}, known)

    def test_few_lines(self):
        self.assertEqual(((), (), ()), (stretches(Chart.fan(1), 0), stretches(Chart.fan(2), 0),
                                        stretches(Chart.fan(2), 1)))
        for line, stretch in ((0, (1, 2)), (1, (0, 2)), (2, (0, 1))):
            self.assertEqual((1,), closing_place(Chart.fan(3), line, stretch))
            self.assertEqual((0, 2), closing_place(-Chart.fan(3), line, list(stretch[::-1])))

    def test_huge_charts(self):
        for chart in huge_simple_charts()[::2]:
            for line in (0, 5, chart.size - 1):
                found = stretches(chart, line)
                self.assertEqual(chart.size - 2, len(found))
                self.assertIn(line, closing_sides(chart, closing_place(chart, line, found[4])))

    def test_refusals(self):
        self.asks_for_chart(stretches, None)
        self.asks_for_line(stretches)
        self.asks_for_simplicity(stretches, 2)
        self.asks_for_chart(closing_place, None, None)
        for value in (*NO_INTEGERS, 4, -1):
            self.due(BadLine, {"line": value}, closing_place, UNSOUND, value, None)
        for value in (*NO_LISTS, [], [1], (1, 2, 3), (True, 2), [1, "2"], (1, None)):
            self.due(BadKind, {"word": "stretch"}, closing_place, UNSOUND, 0, value)
        self.asks_for_simplicity(closing_place, 0, (9, 9))
        for line, value in ((0, (2, 1)), (0, (1, 3)), (0, (0, 1)), (0, (9, -1)), (1, (1, 1)), (3, [0, 2])):
            self.due(BadKind, {"word": "stretch"}, closing_place, Chart.fan(4), line, value)
        self.due(BadKind, {"word": "stretch"}, closing_place, Chart.fan(1), 0, (0, 0))


class SumTest(DueCase):
    def test_number_of_triangles(self):
        """[87] The sum is the number of triangles, n - 2 at least."""
        for chart in small_simple_charts()[2:] + large_simple_charts() + huge_simple_charts()[:2]:
            n, many = chart.size, triangle_sum(chart)
            self.assertEqual(len(triangles(chart)), many)
            self.assertTrue(n - 2 <= many and 3 * many <= n * (n - 2))
        for size in (3, 4, 5, 16):
            self.assertEqual(tuple((i, i + 1, i + 2) for i in range(size - 2)), triangles(Chart.fan(size)))
            self.assertEqual(size - 2, triangle_sum(Chart.fan(size)))

    def test_refusals(self):
        self.asks_for_chart(triangle_sum)
        self.asks_for_simplicity(triangle_sum)
        for size in (1, 2):
            self.due(BadNumber, {"word": "size"}, triangle_sum, Chart.fan(size))
        self.assertFalse(WITH_KNOT.simple)


if __name__ == "__main__":
    unittest.main()
