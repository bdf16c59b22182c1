"""The module rules: points [3] and [6] to [9]."""

import unittest
from itertools import combinations, permutations, product

from bentlines.charts import Chart
from bentlines.errors import BadKind, BadLine, Unsound
from bentlines.rules import ahead, is_good, meetings, ring, ringed, row_of
from tests.helpers import (NO_CHARTS, NO_INTEGERS, NO_LISTS, UNSOUND, DueCase, every_chart, every_sound_chart,
                           some_charts, some_drawings)

# The good rows of [6], written out.
GOOD = ("0000", "++++", "----", "+++-", "---+", "++--", "--++", "+---", "-+++",
        "0+++", "0---", "+0--", "-0++", "++0-", "--0+", "+++0", "---0")


def other_lines(chart, line):
    return [x for x in range(chart.size) if x != line]


def is_ring(chart, line, three):
    """Whether three is a ring on the line, asked by the words of [7]."""
    a, b, c = three
    ways = [ahead(chart, line, a, b), ahead(chart, line, b, c), ahead(chart, line, c, a)]
    return min(ways) >= 0 and max(ways) == 1


class RowsOfSignsTest(DueCase):
    def test_row_of(self):
        """[6] The row of signs of i < j < k < m is (ijk, ijm, ikm, jkm)."""
        for chart in every_chart(4):
            self.assertEqual(chart.signs, row_of(chart, [3, 1, 0, 2]))
        for chart in some_charts(6, 5):
            for four in combinations(range(6), 4):
                row = tuple(chart.sign(three) for three in combinations(four, 3))
                self.assertEqual(row, row_of(chart, four))
                self.assertEqual(row, row_of(chart, list(four[::-1])))

    def test_row_of_refuses(self):
        for value in NO_CHARTS:
            self.due(BadKind, {"word": "chart"}, row_of, value, None)
        for value in (*NO_LISTS, [0, 1, 2], (0, 1, 2, 3, 4)):
            self.due(BadKind, {"word": "four"}, row_of, Chart.fan(5), value)
        self.due(BadLine, {"line": 4}, row_of, Chart.fan(4), (0, 4, 1, 1))
        self.due(BadLine, {"line": 3}, row_of, Chart.fan(3), (0, 1, 2, 3))
        self.due(BadLine, {"line": True}, row_of, UNSOUND, (0, True, 2, 3))

    def test_is_good(self):
        """[6] Of all 81 rows just 17 are good, 8 of them without 0."""
        for signs in product((-1, 0, 1), repeat=4):
            marks = "".join("-0+"[sign + 1] for sign in signs)
            self.assertIs(marks in GOOD, is_good(signs), marks)
            self.assertIs(marks in GOOD, is_good(list(signs)), marks)
            self.assertIs(marks in GOOD, Chart(4, signs).sound, marks)
        self.assertEqual((17, 8), (len(set(GOOD)), len([marks for marks in GOOD if "0" not in marks])))

    def test_is_good_refuses(self):
        for value in (*NO_LISTS, "++++", [], [1, 1, 1], (1, 1, 1, 1, 1)):
            self.due(BadKind, {"word": "row"}, is_good, value)
        for value in (*NO_INTEGERS, 2, -2, "+"):
            self.due(BadKind, {"word": "row"}, is_good, [1, 1, value, 1])


class AheadTest(DueCase):
    def test_ahead(self):
        """[7] For y < z, y is met ahead of z on x if the sign of the three, as a lot, is +."""
        for chart in every_chart(4):
            for line, first, second in permutations(range(4), 3):
                sign = chart.sign(sorted((line, first, second)))
                if first < second:
                    self.assertEqual(sign, ahead(chart, line, first, second))
                else:
                    self.assertEqual(-sign, ahead(chart, line, first, second))

    def test_place_of_the_line_among_the_names(self):
        chart = Chart.told(3, "+")
        self.assertEqual([1, 1, 1], [ahead(chart, 0, 1, 2), ahead(chart, 1, 0, 2), ahead(chart, 2, 0, 1)])
        self.assertEqual([-1, -1, -1], [ahead(chart, 0, 2, 1), ahead(chart, 1, 2, 0), ahead(chart, 2, 1, 0)])

    def test_ahead_refuses(self):
        for value in NO_CHARTS:
            self.due(BadKind, {"word": "chart"}, ahead, value, 9, 9, 9)
        chart = Chart.fan(4)
        for value in (*NO_INTEGERS, 4, -1):
            self.due(BadLine, {"line": value}, ahead, chart, value, 9, 9)
            self.due(BadLine, {"line": value}, ahead, chart, 0, value, 0)
            self.due(BadLine, {"line": value}, ahead, chart, 0, 1, value)
        self.due(BadLine, {"line": 2}, ahead, chart, 2, 2, 9)
        self.due(BadLine, {"line": 2}, ahead, chart, 2, 1, 2)
        self.due(BadLine, {"line": 1}, ahead, chart, 2, 1, 1)
        self.due(BadLine, {"line": 0}, ahead, Chart.fan(1), 0, 0, 0)


class RingsTest(DueCase):
    def test_rings(self):
        """[7] A ring is found if and only if there is one."""
        for chart in every_chart(4) + some_charts(5, 60):
            for line in range(chart.size):
                some = [three for three in permutations(other_lines(chart, line), 3) if is_ring(chart, line, three)]
                found = ring(chart, line)
                if some:
                    self.assertIsInstance(found, tuple)
                    self.assertIn(found, some)
                else:
                    self.assertIsNone(found)

    def test_good_means_no_ring(self):
        """[8] A row of four signs is good exactly if no line of its chart has a ring."""
        for chart in every_chart(4):
            rings = [line for line in range(4) if ring(chart, line) is not None]
            self.assertIs(is_good(chart.signs), rings == [])

    def test_sound_means_no_ring(self):
        """[8] A chart is sound exactly if no line of it has a ring; the bad four has one."""
        charts = some_charts(5, 200) + [drawing.chart() for drawing in some_drawings(5, 20) + some_drawings(9, 5)]
        for chart in charts + every_chart(3) + [Chart.fan(1), Chart.fan(2), Chart.fan(16)]:
            found = ringed(chart)
            self.assertIs(chart.sound, found is None)
            if found is not None:
                line, three = found
                self.assertIsInstance(found, tuple)
                self.assertIs(True, is_ring(chart, line, three))
                self.assertEqual([None] * line, [ring(chart, x) for x in range(line)])
                self.assertIsNotNone(ringed(chart.part(chart.bad)))

    def test_small_charts(self):
        for size in (1, 2, 3):
            for chart in every_chart(size):
                self.assertEqual([None] * size, [ring(chart, line) for line in range(size)])
                self.assertIsNone(ringed(chart))

    def test_refusals(self):
        for value in NO_CHARTS:
            self.due(BadKind, {"word": "chart"}, ring, value, 99)
            self.due(BadKind, {"word": "chart"}, ringed, value)
        for value in (*NO_INTEGERS, 4, -1):
            self.due(BadLine, {"line": value}, ring, UNSOUND, value)


class MeetingsTest(DueCase):
    def test_levels(self):
        """[9] Lines in one level are met at once, lines in an earlier level ahead."""
        drawings = [drawing for size in (4, 6, 10, 16) for drawing in some_drawings(size, 4)]
        for chart in every_sound_chart(4) + [drawing.chart() for drawing in drawings]:
            for line in range(chart.size):
                levels = meetings(chart, line)
                self.assertIsInstance(levels, tuple)
                self.assertEqual(other_lines(chart, line), sorted(x for level in levels for x in level))
                stand = {x: at for at, level in enumerate(levels) for x in level}
                self.assertEqual([tuple(sorted(level)) for level in levels], list(levels))
                for first, second in permutations(stand, 2):
                    way = (stand[second] > stand[first]) - (stand[second] < stand[first])
                    self.assertEqual(way, ahead(chart, line, first, second))

    def test_small_charts(self):
        self.assertEqual((), meetings(Chart.fan(1), 0))
        self.assertEqual((((1,),), ((0,),)), (meetings(Chart.fan(2), 0), meetings(Chart.fan(2), 1)))
        self.assertEqual(((1, 2),), meetings(Chart.told(3, "0"), 0))
        self.assertEqual(((2,), (1,)), meetings(Chart.told(3, "-"), 0))

    def test_meetings_determine_the_chart(self):
        """[9] Unlike sound charts have unlike meetings."""
        charts = every_sound_chart(4)
        told = {tuple(meetings(chart, line) for line in range(4)) for chart in charts}
        self.assertEqual(len(charts), len(told))

    def test_refusals(self):
        for value in NO_CHARTS:
            self.due(BadKind, {"word": "chart"}, meetings, value, 99)
        for value in (*NO_INTEGERS, 4, -1):
            self.due(BadLine, {"line": value}, meetings, UNSOUND, value)
        for line in range(4):
            self.due(Unsound, {"four": (0, 1, 2, 3)}, meetings, UNSOUND, line)
        self.due(Unsound, {"four": (1, 2, 3, 4)}, meetings, Chart.fan(1) + UNSOUND, 0)


if __name__ == "__main__":
    unittest.main()
