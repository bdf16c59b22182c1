"""The module lefts: points [53] to [56], so far as they speak of it."""

import unittest
from itertools import combinations

from bentlines.charts import Chart
from bentlines.drawings import Drawing
from bentlines.errors import BadKind, BadLine, NotPlace
from bentlines.lefts import abreast, left_knots, order_through, right_knots, row_at, share_of, split_by
from bentlines.links import closed, is_order, knot_of, knots_of
from bentlines.places import all_places, is_place, wrong_three
from bentlines.rows import highest
from bentlines.sides import across, left_corner, right_corner, sides
from tests.helpers import (NO_INTEGERS, NO_LISTS, UNSOUND, WITH_KNOT, DueCase, drawn_charts, every_lot, few_charts,
                           huge_charts, large_charts, small_charts, told_before, told_knots, told_row)

ASKING = (left_knots, right_knots, abreast, order_through, row_at)


def told_lying(knot, place):
    """How the knot is to the place, by the words of [53]."""
    m = len(knot)
    share = [x for x in knot if x in place]
    if len(share) in (0, m):
        return "abreast"
    if share == sorted(knot)[m - len(share):]:
        return "left"
    return "right" if share == sorted(knot)[:len(share)] else None


def with_places(charts):
    return [(chart, place) for chart in charts for place in all_places(chart)]


class LeftsTest(DueCase):
    def test_every_small_chart(self):
        """[53] Left with its last lines, right with its first lines, else abreast; all knots are one of these."""
        for chart in small_charts() + large_charts()[:6]:
            knots = told_knots(chart)
            for place in all_places(chart):
                told = {word: tuple(knot for knot in knots if told_lying(knot, place) == word)
                        for word in ("left", "right", "abreast")}
                self.assertEqual(len(knots), sum(len(found) for found in told.values()))
                self.assertEqual(told["left"], left_knots(chart, place[::-1]))
                self.assertEqual(told["right"], right_knots(chart, list(place)))
                self.assertEqual(told["abreast"], abreast(chart, place))

    def test_left_before_right(self):
        """[53] Each left knot is before each right knot; the knots of the corners are left and right."""
        for chart in small_charts() + large_charts()[:3]:
            before = told_before(chart)
            for place in all_places(chart):
                left, right = left_knots(chart, place), right_knots(chart, place)
                self.assertTrue(all(first in before[last] for first in left for last in right))
                for corner, knots in ((left_corner(chart, place), left), (right_corner(chart, place), right)):
                    if corner is not None:
                        self.assertIn(knot_of(chart, corner), knots)

    def test_across_sides(self):
        """[53] A knot without the side is left or right of both places."""
        for chart, place in with_places(few_charts() + large_charts()[-3:]):
            for side in sides(chart, place):
                for call in (left_knots, right_knots):
                    near, far = call(chart, place), call(chart, across(chart, place, side))
                    self.assertEqual([knot for knot in near if side not in knot],
                                     [knot for knot in far if side not in knot])

    def test_known_places(self):
        fan = Chart.fan(16)
        self.assertEqual(((), (), tuple(combinations(range(16), 2))),
                         (left_knots(fan, ()), right_knots(fan, []), abreast(fan, list(range(16)))))
        knot = Chart(5, [0] * 10)
        self.assertEqual(((tuple(range(5)),), ()), (left_knots(knot, (3, 4)), right_knots(knot, (4, 3))))
        self.assertEqual(((), (tuple(range(5)),)), (left_knots(knot, (0, 1)), right_knots(knot, (1, 0))))
        for call in (left_knots, right_knots, abreast, order_through):
            self.assertEqual((), call(Chart.fan(1), [0]))
        self.assertEqual(((0, 1),), left_knots(Chart.fan(2), [1]))
        self.assertEqual(((0, 1),), right_knots(Chart.fan(2), [0]))

    def test_refusals(self):
        for call in ASKING:
            self.asks_for_chart(call, None)
            self.asks_for_lot(call)
            for lot in ((), (0, 2), [3]):
                self.asks_for_soundness(call, lot)
            self.due(NotPlace, {"three": (0, 1, 2)}, call, Chart.fan(4), [3, 2, 0])
            self.due(NotPlace, {"three": (0, 2, 3)}, call, Chart.fan(4), (3, 0, 1))
            self.due(NotPlace, {"three": (0, 1, 2)}, call, WITH_KNOT, (1,))


class RowTest(DueCase):
    def test_every_small_chart(self):
        """[54] The row behind the left knots and all before them has the place as its highest lines."""
        for chart in few_charts():
            before = told_before(chart)
            for place in all_places(chart):
                left = {knot for knot in before if told_lying(knot, place) == "left"}
                lot = left.union(*[before[knot] for knot in left])
                row = row_at(chart, place[::-1])
                self.assertEqual(told_row(chart, lot), row)
                self.assertEqual(place, highest(row, len(place)))
                order = order_through(chart, list(place))
                self.assertTrue(is_order(chart, order))
                self.assertEqual(lot, set(order[:len(lot)]))

    def test_large_charts(self):
        for chart in large_charts() + huge_charts():
            places = list(all_places(chart))
            for place in places[::max(1, len(places) // 6)]:
                row, order = row_at(chart, place), order_through(chart, place)
                self.assertEqual(place, highest(row, len(place)))
                self.assertTrue(is_order(chart, order))
                lot = closed(chart, left_knots(chart, place))
                self.assertEqual(lot, tuple(sorted(order[:len(lot)])))

    def test_endless_places(self):
        for chart in small_charts():
            first = tuple(range(chart.size))
            self.assertEqual(first, row_at(chart, ()))
            self.assertEqual(first, row_at(chart, first[::-1]))
            self.assertEqual(set(Drawing.of(chart).knots()), set(order_through(chart, ())))
            for a in range(1, chart.size):
                self.assertEqual(first, row_at(chart, first[:a]))
                self.assertEqual(first[a:], highest(row_at(chart, first[a:]), chart.size - a))


class ShareTest(DueCase):
    def test_lots(self):
        for lot in every_lot((0, 3, 7, 15)):
            for other in every_lot((1, 3, 15)):
                self.assertEqual(len(set(lot) & set(other)), share_of(lot[::-1], list(other)))
        self.assertEqual(16, share_of(list(range(16)), tuple(range(16))))

    def test_refusals(self):
        for value in NO_LISTS:
            self.due(BadKind, {"word": "lot"}, share_of, value, value)
            self.due(BadKind, {"word": "lot"}, share_of, (0, 15), value)
            self.due(BadLine, {"line": 16}, share_of, [16, -1], value)
        for value in (*NO_INTEGERS, 16, -1):
            self.due(BadLine, {"line": value}, share_of, (3, value, 3), (9, 9))
            self.due(BadLine, {"line": value}, share_of, (3, 4), [0, value])
        self.due(BadLine, {"line": 9}, share_of, (), (9, 9))


class SplitTest(DueCase):
    def test_every_small_chart(self):
        """[55] One of the two is a place or both are; both for just 1 + r lots."""
        for chart in [chart for size in (1, 2, 3, 4) for chart in drawn_charts(size)] + large_charts()[:2]:
            for line in range(chart.size):
                others = [x for x in range(chart.size) if x != line]
                many = 0
                for lot in every_lot(others):
                    part = [others.index(x) for x in lot]
                    if others and not is_place(chart.part(others), part):
                        wrong = wrong_three(chart.part(others), part)
                        self.due(NotPlace, {"three": tuple(others[x] for x in wrong)}, split_by, chart, lot, line)
                    else:
                        told = (is_place(chart, [line, *lot]), is_place(chart, lot))
                        self.assertEqual(told, split_by(chart, lot[::-1], line))
                        self.assertIn(True, told)
                        many += all(told)
                self.assertEqual(1 + len([knot for knot in knots_of(chart) if line in knot]), many)

    def test_places_without_a_line(self):
        """[55] Each place without the line is such a lot."""
        for chart, place in with_places(small_charts()[-40:]):
            for line in range(chart.size):
                self.assertTrue(split_by(chart, [x for x in place if x != line], line)[line not in place])

    def test_refusals(self):
        self.asks_for_chart(split_by, None, None)
        self.asks_for_lot(split_by, 9)
        self.asks_for_line(split_by, [1, 2])
        self.due(BadLine, {"line": 1}, split_by, UNSOUND, (2, 1), 1)
        self.asks_for_soundness(split_by, [0, 2], 3)
        # A three with the line is not asked.
        self.assertEqual((False, True), split_by(Chart.fan(4), (1,), 3))
        self.due(NotPlace, {"three": (0, 2, 3)}, split_by, Chart.fan(4), [3, 0], 1)


if __name__ == "__main__":
    unittest.main()
