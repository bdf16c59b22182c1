"""The module sides: points [49] and [50]."""

import unittest

from bentlines.charts import Chart
from bentlines.crossings import above
from bentlines.errors import BadLine, Degenerate, NotPlace
from bentlines.links import knot_of, knots_of
from bentlines.places import all_places, endless, is_place
from bentlines.sides import (across, is_bounded, left_corner, lower_sides, right_corner, side_sum, sides,
                             upper_sides)
from tests.helpers import WITH_KNOT, DueCase, every_lot, huge_charts, large_charts, small_charts

ASKING = (upper_sides, lower_sides, sides, left_corner, right_corner, is_bounded)


def flipped(lot, line):
    """The lot without the line, or with it."""
    return tuple(sorted(set(lot) ^ {line}))


def charts_with_places():
    """Sound charts with their places, as a list and as a set."""
    charts = small_charts() + large_charts() + [Chart.fan(16), Chart(16, [0] * 560)]
    return [(chart, list(all_places(chart)), set(all_places(chart))) for chart in charts]


class SidesTest(DueCase):
    def test_every_place(self):
        """[49] Upper sides in descending order, lower sides in ascending order; what is across them."""
        for chart, places, known in charts_with_places():
            total = 0
            for place in places:
                found = [line for line in range(chart.size) if flipped(place, line) in known]
                upper = tuple(line for line in found[::-1] if line in place)
                lower = tuple(line for line in found if line not in place)
                self.assertEqual((upper, lower), (upper_sides(chart, place[::-1]), lower_sides(chart, list(place))))
                self.assertEqual(tuple(found), sides(chart, place))
                self.assertIs(bool(place), bool(upper))
                self.assertIs(len(place) < chart.size, bool(lower))
                total += len(found)
            self.assertEqual(total, side_sum(chart))

    def test_numbers_of_sides(self):
        """[49] 2n + 2T sides, T the sum of m over the knots."""
        for chart in small_charts() + huge_charts():
            self.assertEqual(2 * chart.size + 2 * sum(len(knot) for knot in knots_of(chart)), side_sum(chart))
        self.assertEqual((2, 8, 12, 64), tuple(side_sum(chart) for chart in (
            Chart.fan(1), Chart.fan(2), Chart.told(3, "0"), Chart(16, [0] * 560))))

    def test_first_and_last_sides(self):
        """[49] The sides at the ends of the endless places."""
        for chart in small_charts() + huge_charts():
            n = chart.size
            for a in range(1, n):
                place = tuple(range(a))
                self.assertEqual((a - 1, a), (upper_sides(chart, place)[0], lower_sides(chart, place)[0]))
                place = tuple(range(a, n))
                self.assertEqual((a, a - 1), (upper_sides(chart, place)[-1], lower_sides(chart, place)[-1]))

    def test_one_line(self):
        one = Chart.fan(1)
        self.assertEqual(((), (0,), (0,)), (upper_sides(one, ()), lower_sides(one, ()), sides(one, ())))
        self.assertEqual(((0,), (), (0,)), (upper_sides(one, [0]), lower_sides(one, [0]), sides(one, [0])))

    def test_agreeing_places(self):
        """[51] No other place agrees with a place on all of its sides; the place across a side does on the others."""
        for chart, places, known in charts_with_places()[:120]:
            for place in places:
                around = set(sides(chart, place))
                for other in places:
                    if other != place:
                        self.assertTrue(around & (set(place) ^ set(other)))
                for line in around:
                    self.assertEqual({line}, around & (set(place) ^ set(across(chart, place, line))))

    def test_refusals(self):
        for call in ASKING:
            self.asks_for_chart(call, None)
            self.asks_for_lot(call)
            for lot in ((), (0, 2), [3]):
                self.asks_for_soundness(call, lot)
            for chart in small_charts()[10:60]:
                for lot in every_lot(range(chart.size)):
                    if not is_place(chart, lot):
                        wrong = [three for three in every_lot(range(chart.size)) if len(three) == 3
                                 and not is_place(chart.part(three), [three.index(x) for x in lot if x in three])]
                        self.due(NotPlace, {"three": wrong[0]}, call, chart, lot[::-1])
        self.asks_for_chart(side_sum)
        self.asks_for_soundness(side_sum)


class CornersTest(DueCase):
    def test_every_place(self):
        """[50] The first sides are the left corner, the last sides the right one; the endless places lack one."""
        for chart, places, _ in charts_with_places():
            n = chart.size
            for place in places:
                upper, lower = upper_sides(chart, place), lower_sides(chart, place)
                left, right = left_corner(chart, place), right_corner(chart, list(place))
                self.assertEqual(None if place == tuple(range(len(place))) else (upper[0], lower[0]), left)
                self.assertEqual(None if place == tuple(range(n - len(place), n)) else (upper[-1], lower[-1]), right)
                self.assertIs(left is None or left[0] > left[1], True)
                self.assertIs(right is None or right[0] < right[1], True)
                self.assertIs(place not in endless(n), is_bounded(chart, place))
                if is_bounded(chart, place):
                    self.assertTrue(left and right)
                    self.assertGreaterEqual(len(upper) + len(lower), 3)

    def test_lines_above_corners(self):
        """[50] The lines above the knot of a corner are the lines of the place that are not in the knot."""
        for chart, places, _ in charts_with_places()[:-2]:
            for place in places:
                upper, lower = upper_sides(chart, place), lower_sides(chart, place)
                corners = [left_corner(chart, place), right_corner(chart, place)]
                corners += list(zip(upper, upper[1:])) + list(zip(lower, lower[1:]))
                for corner in corners:
                    if corner is not None:
                        knot = knot_of(chart, corner)
                        self.assertEqual(tuple(x for x in place if x not in knot), above(chart, corner))
                for first, second in list(zip(upper, upper[1:])) + list(zip(lower, lower[1:])):
                    knot = knot_of(chart, (first, second))
                    self.assertEqual({first, second}, {min(knot), max(knot)})
                    self.assertIn(set(knot) & set(place), (set(), set(knot)))

    def test_known_corners(self):
        self.assertEqual(((1, 0), (1, 3)), (left_corner(WITH_KNOT, (1, 2)), right_corner(WITH_KNOT, (1, 2))))
        for place in ((), (0, 1, 2, 3)):
            self.assertEqual((None, None), (left_corner(WITH_KNOT, place), right_corner(WITH_KNOT, place)))
        self.assertEqual((None, (0, 1)), (left_corner(WITH_KNOT, [0]), right_corner(WITH_KNOT, [0])))
        self.assertEqual(((3, 2), None), (left_corner(WITH_KNOT, [3]), right_corner(WITH_KNOT, [3])))


class AcrossTest(DueCase):
    def test_every_side(self):
        """[49] The place across a side is the lot without it or with it, and has it as a side of the other kind."""
        for chart, places, known in charts_with_places()[:150]:
            for place in places:
                for line in range(chart.size):
                    beyond = flipped(place, line)
                    if beyond in known:
                        self.assertEqual(beyond, across(chart, place[::-1], line))
                        self.assertEqual(place, across(chart, beyond, line))
                        self.assertIs(line in place, line in lower_sides(chart, beyond))
                        self.assertIs(line not in place, line in upper_sides(chart, beyond))
                    else:
                        self.due(Degenerate, {"word": "side"}, across, chart, list(place), line)

    def test_known_places(self):
        self.assertEqual((1, 2, 3), across(WITH_KNOT, [2, 1], 3))
        self.assertEqual((2,), across(WITH_KNOT, (1, 2), 1))
        self.assertEqual((), across(Chart.fan(1), [0], 0))
        self.due(Degenerate, {"word": "side"}, across, WITH_KNOT, (1, 2), 2)

    def test_refusals(self):
        """The line ahead of Unsound, and what is no place ahead of what is no side."""
        self.asks_for_chart(across, None, None)
        self.asks_for_lot(across, None)
        self.asks_for_line(across, (0, 2))
        self.asks_for_soundness(across, (0, 2), 0)
        self.due(BadLine, {"line": 4}, across, WITH_KNOT, (0, 2), 4)
        self.due(NotPlace, {"three": (0, 1, 2)}, across, WITH_KNOT, (0, 2), 0)
        self.due(NotPlace, {"three": (0, 1, 3)}, across, Chart.fan(4), [3, 0], 1)

    def test_arguments_stay(self):
        place = [2, 1]
        across(WITH_KNOT, place, 3)
        upper_sides(WITH_KNOT, place)
        self.assertEqual([2, 1], place)


if __name__ == "__main__":
    unittest.main()
