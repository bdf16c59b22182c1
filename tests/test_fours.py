"""The module fours: points [106] to [108]."""

import unittest
from itertools import combinations, permutations

from bentlines.charts import Chart
from bentlines.errors import BadKind, BadLine
from bentlines.fours import cross, crossing_chords, inner_point, is_convex, parts_ends
from tests.helpers import (NO_INTEGERS, NO_LISTS, UNSOUND, DueCase, huge_simple_charts, large_simple_charts, lots,
                           simple_charts, small_simple_charts)

# By the signs of the four, which of its points are the crossing chords or the inner point, by [108].
KNOWN = {"++++": ((0, 2), (1, 3)), "----": ((0, 2), (1, 3)), "++--": ((0, 3), (1, 2)), "--++": ((0, 3), (1, 2)),
         "+++-": 2, "---+": 2, "+---": 1, "-+++": 1}


def told_within(chart, p, three):
    """Whether the point is within the three others, by the words of [106]."""
    a, b, c = three
    return len({chart.sign((p, a, b)), chart.sign((p, b, c)), chart.sign((p, c, a))}) == 1


def told_parts(chart, pair, other):
    """Whether the chord parts the two points, by the words of [107]."""
    if set(pair) & set(other):
        return False
    return chart.sign((*pair, other[0])) != chart.sign((*pair, other[1]))


def some_fours(chart):
    return lots(chart.size, 4)[::1 if chart.size < 9 else 37]


class FoursTest(DueCase):
    def test_every_small_chart(self):
        """[106] [107] Convex fours with their crossing chords, the others with their inner point."""
        for chart in small_simple_charts() + large_simple_charts()[::3] + huge_simple_charts()[:1]:
            for four in some_fours(chart):
                inner = [p for p in four if told_within(chart, p, [x for x in four if x != p])]
                given = four[::-1]
                self.assertIs(not inner, is_convex(chart, given))
                self.assertEqual(inner or [None], [inner_point(chart, list(given))])
                halves = [(pair, tuple(x for x in four if x not in pair)) for pair in combinations(four, 2)]
                parting = [pair for pair, rest in halves if told_parts(chart, pair, rest)]
                self.assertEqual(None if inner else tuple(parting), crossing_chords(chart, given))
                if inner:
                    self.assertEqual([pair for pair, _ in halves if inner[0] in pair], parting)

    def test_the_eight_rows(self):
        """[108] By the signs of the four alone."""
        self.assertEqual(set(KNOWN), {chart.marks for chart in simple_charts(4)})
        for marks, told in KNOWN.items():
            chart, four = Chart.told(4, marks), (3, 1, 2, 0)
            found = (is_convex(chart, four), crossing_chords(chart, four), inner_point(chart, four))
            self.assertEqual((False, None, told) if isinstance(told, int) else (True, told, None), found)

    def test_order_does_not_matter(self):
        """[106] Within three points, in any order of the three."""
        for chart in simple_charts(4):
            for p in range(4):
                others = [x for x in range(4) if x != p]
                self.assertEqual(1, len({told_within(chart, p, three) for three in permutations(others)}))

    def test_refusals(self):
        for call in (is_convex, inner_point, crossing_chords):
            self.asks_for_chart(call, None)
            for value in (*NO_LISTS, [], [0, 1, 2], (9, 9, 9, 9, 9)):
                self.due(BadKind, {"word": "four"}, call, UNSOUND, value)
            for value in (*NO_INTEGERS, 4, -1):
                self.due(BadLine, {"line": value}, call, UNSOUND, (3, value, 3, 9))
            self.due(BadLine, {"line": 3}, call, UNSOUND, [3, 1, 3, 9])
            self.asks_for_simplicity(call, (0, 1, 2, 3))


class ChordsTest(DueCase):
    def test_every_small_chart(self):
        """[107] A chord parts two points with unlike signs; chords cross that part each other's points."""
        for chart in small_simple_charts()[2::2] + large_simple_charts()[::8]:
            pairs = lots(chart.size, 2)
            for pair in pairs:
                for other in pairs:
                    told = told_parts(chart, pair, other)
                    self.assertIs(told, parts_ends(chart, pair[::-1], list(other)))
                    both = told and told_parts(chart, other, pair)
                    self.assertIs(both, cross(chart, list(pair), other[::-1]))

    def test_common_points(self):
        self.assertIs(False, parts_ends(Chart.fan(2), (0, 1), (1, 0)))
        self.assertIs(False, cross(Chart.fan(2), (0, 1), (1, 0)))
        self.assertIs(False, parts_ends(Chart.fan(3), (0, 2), (1, 2)))

    def test_refusals(self):
        for call in (parts_ends, cross):
            self.asks_for_chart(call, None, None)
            self.asks_for_pair(call, None)
            for value in (*NO_LISTS, [], [0], (0, 1, 2), [9, 9, 9]):
                self.due(BadKind, {"word": "other"}, call, UNSOUND, [3, 0], value)
            for value in (*NO_INTEGERS, 4, -1):
                self.due(BadLine, {"line": value}, call, UNSOUND, [3, 0], (value, 9))
            self.due(BadLine, {"line": 0}, call, UNSOUND, [3, 0], (0, 0))
            self.asks_for_simplicity(call, (0, 1), (1, 0))


if __name__ == "__main__":
    unittest.main()
