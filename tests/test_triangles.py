"""The module triangles: points [76] to [80]."""

import unittest
from itertools import combinations

from bentlines.charts import Chart, with_signs
from bentlines.errors import BadLine, BadNumber, NotTriangle
from bentlines.places import all_places
from bentlines.sides import is_bounded, sides
from bentlines.triangles import is_triangle, triangle_place, triangles, triangles_on, turned_over, with_sign
from tests.helpers import (NO_INTEGERS, UNSOUND, DueCase, huge_simple_charts, large_simple_charts, lots,
                           small_simple_charts, told_above, told_meeting)


def charts():
    return small_simple_charts() + large_simple_charts()[::2]


def told_triangles(chart):
    """All triangles by the words of [76]."""
    ways = [told_meeting(chart, line) for line in range(chart.size)]
    return tuple(three for three in lots(chart.size, 3)
                 if all(abs(ways[x].index(y) - ways[x].index(z)) == 1
                        for x in three for y, z in [[w for w in three if w != x]]))


class TrianglesTest(DueCase):
    def test_every_small_chart(self):
        """[76] [77] The threes met next to one another; just these can be negated."""
        for chart in charts():
            told = told_triangles(chart)
            self.assertEqual(told, triangles(chart))
            for three in lots(chart.size, 3):
                self.assertIs(three in told, is_triangle(chart, three[::-1]))
                self.assertIs(three in told, with_signs(chart, {three: -chart.sign(three)}).sound)

    def test_turned_over(self):
        """[76] [77] Only the sign of the triangle is negated; it is a triangle still, below the same lines."""
        for chart in charts() + huge_simple_charts()[:1]:
            for three in triangles(chart):
                behind = turned_over(chart, list(three[::-1]))
                negated = [-chart.sign(other) if other == three else chart.sign(other) for other in lots(chart.size, 3)]
                self.assertEqual(Chart(chart.size, negated), behind)
                self.assertTrue(is_triangle(behind, three))
                self.assertEqual(chart, turned_over(behind, three))
                for first, second in combinations(three, 2):
                    self.assertEqual(set(told_above(chart, first, second)) - set(three),
                                     set(told_above(behind, first, second)) - set(three))

    def test_places(self):
        """[78] The bounded places with three sides, and which places there are behind the turning."""
        for chart in charts():
            places = set(all_places(chart))
            told = {place: sides(chart, place) for place in places if is_bounded(chart, place)}
            found = {triangle_place(chart, three[::-1]): three for three in triangles(chart)}
            self.assertEqual({place: names for place, names in told.items() if len(names) == 3}, found)
            for place, three in found.items():
                i, j, k = three
                over = set(told_above(chart, i, j)) - {k}
                self.assertEqual(over | ({j} if chart.sign(three) > 0 else {i, k}), set(place))
                other = tuple(sorted(over | ({i, k} if chart.sign(three) > 0 else {j})))
                self.assertEqual(places - {place} | {other}, set(all_places(turned_over(chart, three))))

    def test_above_and_below_lines(self):
        """[79] A triangle lies above a line if the two others meet above it."""
        for chart in charts():
            found = triangles(chart)
            for line in range(chart.size):
                for side in (1, -1):
                    told = tuple(three for three in found if line in three and
                                 (line in told_above(chart, *[x for x in three if x != line])) == (side < 0))
                    self.assertEqual(told, triangles_on(chart, line, side))
                    others = [x for x in range(chart.size) if x != line]
                    meets = any((line in told_above(chart, *pair)) == (side < 0) for pair in combinations(others, 2))
                    self.assertIs(meets, bool(told))

    def test_signs(self):
        for chart in charts():
            for sign in (1, -1):
                self.assertEqual(tuple(three for three in triangles(chart) if chart.sign(three) == sign),
                                 with_sign(chart, sign))

    def test_charts_made_from_charts(self):
        """[80] The triangles of the contrary, the mirrored and the rolled chart."""
        for chart in charts() + huge_simple_charts()[:2]:
            found, n = triangles(chart), chart.size
            self.assertEqual(found, triangles(-chart))
            self.assertEqual(found, tuple(sorted(tuple(sorted(n - 1 - x for x in three))
                                                 for three in triangles(~chart))))
            self.assertEqual(sorted(tuple(sorted((x + 1) % n for x in three)) for three in found),
                             list(triangles(chart >> 1)))

    def test_few_lines(self):
        for chart in (Chart.fan(1), Chart.fan(2)):
            self.assertEqual(((), (), ()), (triangles(chart), with_sign(chart, 1), triangles_on(chart, 0, 1)))
        self.assertEqual((((0, 1, 2),), (1,), (0, 2)),
                         (triangles(Chart.fan(3)), triangle_place(Chart.fan(3), (0, 1, 2)),
                          triangle_place(-Chart.fan(3), (0, 1, 2))))

    def test_refusals(self):
        self.asks_for_chart(is_triangle, None)
        self.asks_for_three(is_triangle)
        self.asks_for_simplicity(is_triangle, (0, 1, 2))
        self.asks_for_chart(triangles)
        self.asks_for_simplicity(triangles)
        for call in (turned_over, triangle_place):
            self.asks_for_triangle(call)
        self.due(NotTriangle, {"three": (0, 7, 15)}, turned_over, Chart.fan(16), [15, 0, 7])

    def test_refused_sides_and_signs(self):
        self.asks_for_chart(triangles_on, None, None)
        for value in (*NO_INTEGERS, 4, -1):
            self.due(BadLine, {"line": value}, triangles_on, UNSOUND, value, None)
        self.asks_for_chart(with_sign, None)
        for value in (*NO_INTEGERS, 0, 2, -2):
            self.due(BadNumber, {"word": "side"}, triangles_on, UNSOUND, 3, value)
            self.due(BadNumber, {"word": "sign"}, with_sign, UNSOUND, value)
        self.asks_for_simplicity(triangles_on, 0, -1)
        self.asks_for_simplicity(with_sign, 1)


if __name__ == "__main__":
    unittest.main()
