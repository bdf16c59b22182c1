"""The module charts: points [1] to [6] and [10] to [12]."""

import unittest
from itertools import combinations, permutations, product
from math import comb

from bentlines.charts import Chart
from bentlines.errors import BadKind, BadLine, BadNumber, BadSigns, TooMany
from tests.helpers import (NO_CHARTS, NO_INTEGERS, NO_LISTS, DueCase, every_chart, every_sound_chart, some_charts,
                           some_drawings)

BAD_SIZES = (*NO_INTEGERS, 0, 17, -1, 10 ** 299)


class MakingTest(DueCase):
    def test_attributes(self):
        for signs in ([1, 1, 0, -1], (1, 1, 0, -1)):
            chart = Chart(4, signs)
            self.assertEqual((4, (1, 1, 0, -1), "++0-"), (chart.size, chart.signs, chart.marks))
        self.assertEqual(16, Chart.MOST)

    def test_sizes(self):
        """[3] A chart has 1 to 16 lines."""
        for size in range(1, 17):
            chart = Chart(size, [0] * comb(size, 3))
            self.assertEqual((size, size), (chart.size, len(chart)))
            self.assertEqual("0" * comb(size, 3), chart.marks)
        self.assertEqual((1, (), ""), (Chart(1, []).size, Chart(1, ()).signs, Chart(2, []).marks))
        for size in BAD_SIZES:
            self.due(BadNumber, {"word": "size"}, Chart, size, [])
            self.due(BadNumber, {"word": "size"}, Chart, size, None)
            self.due(BadNumber, {"word": "size"}, Chart.fan, size)
            self.due(BadNumber, {"word": "size"}, Chart.told, size, "")
            self.due(BadNumber, {"word": "size"}, Chart.told, size, None)

    def test_bad_signs(self):
        """[4] A sign is one of the integers -1, 0, 1."""
        for signs in (*NO_LISTS, "+++-", [], [1] * 3, [1] * 5, ["x"] * 5):
            self.due(BadSigns, {"at": -1}, Chart, 4, signs)
        for value in (*NO_INTEGERS, 2, -2, "+", 10 ** 299):
            for at in range(4):
                signs = [0] * 4
                signs[at] = value
                self.due(BadSigns, {"at": at}, Chart, 4, signs)
            self.due(BadSigns, {"at": 1}, Chart, 4, (0, value, value, 5))
        self.due(BadSigns, {"at": -1}, Chart, 2, [1])

    def test_copies(self):
        """[1] Objects keep copies of their arguments."""
        signs = [1, 1, 0, -1]
        chart = Chart(4, signs)
        signs[0] = -1
        self.assertEqual((1, 1, 0, -1), chart.signs)
        self.assertEqual("++0-", chart.marks)
        self.assertEqual(1, chart.sign((0, 1, 2)))

    def test_fan(self):
        """[5] The fan has the sign + everywhere."""
        for size in range(1, 17):
            self.assertEqual(Chart(size, [1] * comb(size, 3)), Chart.fan(size))

    def test_told(self):
        for chart in every_chart(4):
            self.assertEqual(chart, Chart.told(4, chart.marks))
        self.assertEqual(Chart(1, []), Chart.told(1, ""))
        self.assertEqual((-1, 0, 1, 1), Chart.told(4, "-0++").signs)

    def test_told_refuses(self):
        for value in (None, 4, ["+"], ("+",), b"+", True):
            self.due(BadKind, {"word": "marks"}, Chart.told, 3, value)
        for marks in ("", "+++", "+++++", "xxxxx", "+++- "):
            self.due(BadSigns, {"at": -1}, Chart.told, 4, marks)
        for mark in "x 1_.":
            self.due(BadSigns, {"at": 2}, Chart.told, 4, "+-" + mark + mark)
            self.due(BadSigns, {"at": 0}, Chart.told, 3, mark)


class SignsTest(DueCase):
    def test_order_of_signs(self):
        """[4] The signs are kept in the order of the threes."""
        for size in (3, 4, 5, 7):
            for chart in some_charts(size, 5):
                for at, three in enumerate(combinations(range(size), 3)):
                    self.assertEqual(chart.signs[at], chart.sign(three))

    def test_any_order(self):
        """[4] The sign is negated if an odd number of exchanges sorts the names."""
        chart = Chart.told(4, "+-0+")
        self.assertEqual([1, -1, -1, 1, 1, -1], [chart.sign(names) for names in permutations((0, 1, 2))])
        self.assertEqual([-1, 1, 1, -1, -1, 1], [chart.sign(list(names)) for names in permutations((0, 1, 3))])
        self.assertEqual([0] * 6, [chart.sign(names) for names in permutations((0, 2, 3))])
        self.assertEqual((1, -1, 1), (chart[1, 2, 3], chart[1, 3, 2], chart[3, 1, 2]))
        self.assertEqual(-1, chart[[1, 3, 2]])

    def test_sign_refuses(self):
        chart = Chart.fan(4)
        for ask in (chart.sign, lambda names: chart[names]):
            for value in (*NO_LISTS, [], [0, 1], (0, 1, 2, 3), ["x"]):
                self.due(BadKind, {"word": "three"}, ask, value)
            for value in (*NO_INTEGERS, 4, -1):
                self.due(BadLine, {"line": value}, ask, (0, value, 0))
            self.due(BadLine, {"line": 2}, ask, (2, 2, 9))
        self.due(BadLine, {"line": 2}, Chart.fan(2).sign, (0, 1, 2))

    def test_simple(self):
        for chart in every_chart(4):
            self.assertIs("0" not in chart.marks, chart.simple)
        self.assertIs(True, Chart.fan(1).simple)

    def test_iteration_and_equality(self):
        chart = Chart.told(4, "+-0+")
        self.assertEqual([1, -1, 0, 1], list(chart))
        self.assertEqual([], list(Chart.fan(2)))
        self.assertTrue(chart == Chart(4, (1, -1, 0, 1)))
        self.assertFalse(chart == Chart(4, (1, -1, 0, -1)))
        self.assertFalse(Chart.fan(1) == Chart.fan(2))
        self.assertTrue(chart != Chart.fan(4))
        for value in (*NO_CHARTS, chart.signs, chart.marks):
            self.assertIs(False, chart == value)


class MadeTest(DueCase):
    def test_contrary(self):
        """[5] Every sign is negated."""
        for chart in every_chart(4):
            self.assertEqual([-sign for sign in chart], list(chart.contrary()))
            self.assertEqual(chart.contrary(), -chart)
        self.assertEqual(Chart.fan(1), -Chart.fan(1))

    def test_mirrored(self):
        """[5] Line x is renamed n-1-x, and each three as a lot keeps its sign."""
        for size in (1, 2, 3, 4, 6, 16):
            for chart in some_charts(size, 3):
                other = chart.mirrored()
                self.assertEqual(other, ~chart)
                for i, j, k in combinations(range(size), 3):
                    self.assertEqual(chart.sign((i, j, k)), other.sign((size - 1 - k, size - 1 - j, size - 1 - i)))

    def test_rolled_once(self):
        """[5] Line n-1 is renamed 0, x is renamed x+1; just the threes with the new line 0 are negated."""
        for size in (1, 2, 3, 4, 6, 16):
            for chart in some_charts(size, 3):
                other = chart.rolled()
                self.assertEqual(size, other.size)
                for i, j, k in combinations(range(size), 3):
                    if k < size - 1:
                        self.assertEqual(chart.sign((i, j, k)), other.sign((i + 1, j + 1, k + 1)))
                    else:
                        self.assertEqual(-chart.sign((i, j, k)), other.sign((0, i + 1, j + 1)))

    def test_rolled_many_times(self):
        """[5] Rolled t times is t rollings one after the other, -t times the inverse."""
        for size in (1, 2, 3, 4, 5, 16):
            for chart in some_charts(size, 2):
                other = chart
                for times in range(4 * size + 2):
                    self.assertEqual(other, chart.rolled(times))
                    self.assertEqual(other, chart >> times)
                    self.assertEqual(chart, other.rolled(-times))
                    self.assertEqual(chart, other << times)
                    other = other.rolled()

    def test_any_number_of_rolls(self):
        chart = Chart.told(5, "+-0+--0+++")
        for times in (10 ** 299, -10 ** 299, 10 ** 299 + 7):
            self.assertEqual(chart.rolled(times % 10), chart >> times)
            self.assertEqual(chart.rolled(-(times % 10)), chart << times)
        for value in NO_INTEGERS:
            self.due(BadNumber, {"word": "times"}, chart.rolled, value)
            self.due(BadNumber, {"word": "times"}, lambda: chart >> value)
            self.due(BadNumber, {"word": "times"}, lambda: chart << value)

    def test_part(self):
        """[5] The other lines are left out, the lines of the lot renamed 0, 1, .. in order."""
        for chart in some_charts(6, 3):
            for many in range(1, 7):
                for lot in combinations(range(6), many):
                    part = chart.part(lot[::-1])
                    self.assertEqual(part, chart.part(list(lot)))
                    self.assertEqual(many, part.size)
                    signs = [chart.sign(three) for three in combinations(lot, 3)]
                    self.assertEqual(signs, list(part))

    def test_part_refuses(self):
        chart = Chart.fan(4)
        for value in (*NO_LISTS, [], ()):
            self.due(BadKind, {"word": "lot"}, chart.part, value)
        for value in (*NO_INTEGERS, 4, -1):
            self.due(BadLine, {"line": value}, chart.part, [0, value, 0])
        self.due(BadLine, {"line": 1}, chart.part, [1, 1])

    def test_beside(self):
        """[5] The signs of two lines of one chart and one of the other are + and -."""
        for chart in some_charts(4, 3) + some_charts(1, 1):
            for other in some_charts(3, 3) + some_charts(2, 1):
                both = chart + other
                self.assertEqual(chart.size + other.size, both.size)
                self.assertEqual(chart, both.part(range_list(0, chart.size)))
                self.assertEqual(other, both.part(range_list(chart.size, both.size)))
                for three in combinations(range(both.size), 3):
                    first = len([line for line in three if line < chart.size])
                    if first in (1, 2):
                        self.assertEqual(1 if first == 2 else -1, both.sign(three))
        self.assertEqual("++--", (Chart.fan(2) + Chart.fan(2)).marks)

    def test_beside_bounds(self):
        self.assertEqual(16, (Chart.fan(15) + Chart.fan(1)).size)
        self.assertEqual(16, (Chart.fan(8) + Chart.fan(8)).size)
        self.due(TooMany, {"word": "lines"}, lambda: Chart.fan(16) + Chart.fan(1))
        self.due(TooMany, {"word": "lines"}, lambda: Chart.fan(1) + Chart.fan(16))
        for value in NO_CHARTS:
            self.due(BadKind, {"word": "chart"}, lambda: Chart.fan(16) + value)

    def test_charts_stay(self):
        chart = Chart.told(4, "+-0+")
        lot = [2, 0, 1]
        made = (chart.part(lot), -chart, ~chart, chart >> 3, chart << 3, chart + chart)
        self.assertEqual(6, len(made))
        self.assertEqual(("+-0+", [2, 0, 1]), (chart.marks, lot))


class SoundTest(DueCase):
    def test_rows_of_four(self):
        """[6] 17 of the 81 charts of four lines are sound, 8 of them simple."""
        sound = every_sound_chart(4)
        self.assertEqual(17, len(sound))
        self.assertEqual(8, len([chart for chart in sound if chart.simple]))
        for chart in every_chart(4):
            self.assertIs(chart.sound, chart.bad is None)
            self.assertIn(chart.bad, (None, (0, 1, 2, 3)))

    def test_three_lines_or_fewer(self):
        for size in (1, 2, 3):
            for chart in every_chart(size):
                self.assertIs(True, chart.sound)
                self.assertIsNone(chart.bad)

    def test_numbers_of_simple_charts(self):
        for size, many in ((3, 2), (4, 8), (5, 62)):
            charts = [Chart(size, signs) for signs in product((-1, 1), repeat=comb(size, 3))]
            self.assertEqual(many, len([chart for chart in charts if chart.sound]))

    def test_bad_four(self):
        """[6] The bad four is the least four whose row is not good."""
        bad = [chart.marks for chart in every_chart(4) if not chart.sound]
        for chart in some_charts(6, 20):
            found = [four for four in combinations(range(6), 4) if chart.part(four).marks in bad]
            self.assertEqual(found[0] if found else None, chart.bad)

    def test_last_four(self):
        """[6] The row that is not good may be that of the last four of 16 lines."""
        signs = list(Chart.fan(16))
        threes = list(combinations(range(16), 3))
        signs[threes.index((12, 14, 15))] = -1
        signs[threes.index((12, 13, 14))] = -1
        chart = Chart(16, signs)
        fours = [four for four in combinations(range(16), 4) if not chart.part(four).sound]
        self.assertEqual(fours[0], chart.bad)
        self.assertIs(False, chart.sound)

    def test_two_zeros(self):
        """[10] If two threes of a four have the sign 0, all four have it."""
        for chart in every_sound_chart(4):
            self.assertIn(chart.marks.count("0"), (0, 1, 4))

    def test_parts_are_sound(self):
        """[10] For five lines or more, sound means that each part without one line is."""
        charts = [drawing.chart() for drawing in some_drawings(6, 10)] + some_charts(5, 200)
        charts += [Chart(5, chart.signs[:9] + (sign,)) for chart in map(Chart.fan, [5] * 3) for sign in (-1, 0, 1)]
        for chart in charts:
            parts = [chart.part([x for x in chart_lines(chart) if x != line]) for line in chart_lines(chart)]
            self.assertIs(all(part.sound for part in parts), chart.sound)

    def test_parts_determine_the_chart(self):
        """[10] Parts that give each three one sign come from one chart only."""
        threes = list(combinations(range(5), 3))
        for chart in some_charts(5, 30):
            told = {three: set() for three in threes}
            for line in range(5):
                rest = [x for x in range(5) if x != line]
                part = chart.part(rest)
                for names in combinations(range(4), 3):
                    told[tuple(rest[x] for x in names)].add(part.sign(names))
            self.assertEqual([{sign} for sign in chart], [told[three] for three in threes])

    def test_made_charts_are_sound(self):
        """[11] The contrary, mirrored and rolled chart is sound, simple, if the chart is."""
        for chart in every_chart(4) + some_charts(5, 50) + [drawing.chart() for drawing in some_drawings(7, 10)]:
            for other in (-chart, ~chart, chart >> 1, chart << 2):
                self.assertIs(chart.sound, other.sound)
                self.assertIs(chart.simple, other.simple)

    def test_identities(self):
        """[11] Contrary, mirrored and rolled charts undo each other and may be exchanged."""
        for chart in every_chart(4) + some_charts(5, 20) + some_charts(2, 1) + some_charts(1, 1) + some_charts(16, 2):
            size = chart.size
            self.assertEqual(chart, --chart)
            self.assertEqual(chart, ~~chart)
            self.assertEqual(-chart, chart >> size)
            self.assertEqual(chart, chart >> 2 * size)
            self.assertEqual(~-chart, -~chart)
            self.assertEqual((-chart) >> 1, -(chart >> 1))
            self.assertEqual(~(chart >> 1), (~chart) << 1)

    def test_signs_of_the_middle_line(self):
        """[12] The fan is sound, and so is a chart whose sign of i < j < k depends on j alone."""
        for size in range(1, 17):
            self.assertIs(True, Chart.fan(size).sound)
        for size in (4, 6):
            for told in product((-1, 1), repeat=size):
                chart = Chart(size, [told[j] for i, j, k in combinations(range(size), 3)])
                self.assertIs(True, chart.sound)
        told = [(-1) ** (x * x // 3) for x in range(16)]
        self.assertIs(True, Chart(16, [told[j] for i, j, k in combinations(range(16), 3)]).sound)


def range_list(low, high):
    return list(range(low, high))


def chart_lines(chart):
    return list(range(chart.size))


if __name__ == "__main__":
    unittest.main()
