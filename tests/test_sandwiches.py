"""The module sandwiches: points [127] to [129]."""

import unittest

from bentlines.charts import Chart
from bentlines.errors import BadKind, BadLine, BadNumber
from bentlines.sandwiches import halving, sandwich_odd, sandwiches_of
from tests.helpers import (NO_INTEGERS, NO_LISTS, UNSOUND, DueCase, every_lot, huge_simple_charts,
                           large_simple_charts, simple_charts, some_simple_charts, told_above)


def two_lots(lines):
    """All pairs of lots of the lines without a common line, each with a line."""
    return [(lot, other) for lot in every_lot(lines) for other in every_lot(lines)
            if lot and other and not set(lot) & set(other)]


def told_sandwiches(chart, lot, other, i, j):
    """All sandwiches by the words of [127]."""
    return tuple((a, b) for a in sorted(lot) for b in sorted(other)
                 if len(set(told_above(chart, a, b)) & set(lot)) == i - 1
                 and len(set(told_above(chart, a, b)) & set(other)) == j - 1)


def every_case():
    """Simple charts with two lots and the numbers of lines for which there can be sandwiches."""
    charts = [chart for size in (2, 3, 4) for chart in simple_charts(size)] + simple_charts(5)[::9]
    found = [(chart, *pair) for chart in charts for pair in two_lots(range(chart.size))]
    for chart in large_simple_charts()[::3] + huge_simple_charts()[::2]:
        lines = list(range(chart.size))
        found += [(chart, lines[::2], lines[1::2]), (chart, lines[:3], lines[4:]), (chart, lines[-2:], lines[1:4])]
        if chart.size > 11:
            found += [(chart, lines[:5], lines[5:12]), (chart, lines[4:11], lines[1:4] + lines[11:])]
    return [(*case, i, j) for case in found for i in range(1, len(case[1]) + 1) for j in range(1, len(case[2]) + 1)]


class SandwichesTest(DueCase):
    def test_every_small_chart(self):
        """[127] [128] The sandwiches, and whether their number is odd."""
        for chart, lot, other, i, j in every_case():
            told = told_sandwiches(chart, lot, other, i, j)
            self.assertEqual(told, sandwiches_of(chart, lot[::-1], other[::-1], i, j))
            self.assertIs(len(told) % 2 == 1, sandwich_odd(lot[::-1], list(other), i, j))
            if max(lot) < min(other):
                self.assertEqual(1, len(told) % 2)
            if len(lot) == len(other) == 1:
                self.assertEqual(((lot[0], other[0]),), told)

    def test_halving(self):
        """[128] The least sandwich in the middle of both lots."""
        for chart, lot, other, i, j in every_case():
            if 2 * i == len(lot) + 1 and 2 * j == len(other) + 1:
                self.assertEqual(told_sandwiches(chart, lot, other, i, j)[0], halving(chart, lot[::-1], list(other)))

    def test_contrary_and_mirrored(self):
        """[129] The sandwiches of the contrary and the mirrored chart."""
        for chart, lot, other, i, j in every_case()[::5]:
            found, last = sandwiches_of(chart, lot, other, i, j), chart.size - 1
            self.assertEqual(found, sandwiches_of(-chart, lot, other, len(lot) + 1 - i, len(other) + 1 - j))
            renamed = sandwiches_of(~chart, [last - x for x in lot], [last - x for x in other], i, j)
            self.assertEqual(sorted(found), sorted((last - a, last - b) for a, b in renamed))

    def test_names_to_fifteen(self):
        self.assertIs(True, sandwich_odd([15], (0,), 1, 1))
        self.assertIs(False, sandwich_odd((0, 2, 5), (1, 3, 4), 1, 1))
        self.assertIs(True, sandwich_odd(list(range(8)), tuple(range(8, 16)), 8, 1))

    def test_refused_lots(self):
        """Kinds and names of lot, then of other, then lines in both, ahead of the numbers and of Unsound."""
        calls = [(lambda lot, other: sandwiches_of(UNSOUND, lot, other, 0, 0), 4),
                 (lambda lot, other: sandwich_odd(lot, other, 0, 0), 16),
                 (lambda lot, other: halving(UNSOUND, lot, other), 4)]
        for call, most in calls:
            for value in NO_LISTS:
                self.due(BadKind, {"word": "lot"}, call, value, None)
                self.due(BadKind, {"word": "other"}, call, [3, 0], value)
            for value in (*NO_INTEGERS, most, -1):
                self.due(BadLine, {"line": value}, call, (3, value, 3), None)
                self.due(BadLine, {"line": value}, call, (3, 2), [3, value, 3])
            self.due(BadLine, {"line": 3}, call, (3, 2, 3), None)
            self.due(BadLine, {"line": 1}, call, (3, 2), [3, 1, 2, 1])
            self.due(BadLine, {"line": 3}, call, (2, 3), [1, 3, 2])
            self.due(BadLine, {"line": 2}, call, (2, 3), [1, 2, 3])

    def test_refused_numbers(self):
        self.asks_for_chart(sandwiches_of, None, None, None, None)
        self.asks_for_chart(halving, None, None)
        for value in (*NO_INTEGERS, 0, -1, 3):
            self.due(BadNumber, {"word": "first"}, sandwiches_of, UNSOUND, [0, 1], [2], value, 9)
            self.due(BadNumber, {"word": "second"}, sandwiches_of, UNSOUND, [2], [0, 1], 1, value)
            self.due(BadNumber, {"word": "first"}, sandwich_odd, [0, 1], [2], value, 9)
            self.due(BadNumber, {"word": "second"}, sandwich_odd, [2], [0, 1], 1, value)
        for value in (0, 1):
            self.due(BadNumber, {"word": "first"}, sandwiches_of, UNSOUND, [], [2], value, 9)
            self.due(BadNumber, {"word": "second"}, sandwich_odd, [2], (), 1, value)
        self.asks_for_simplicity(sandwiches_of, [0, 1], [2], 2, 1)

    def test_refused_even_lots(self):
        for lot in ((), (0, 1)):
            self.due(BadNumber, {"word": "lot"}, halving, UNSOUND, lot, ())
            self.due(BadNumber, {"word": "other"}, halving, UNSOUND, [2], lot)
        self.asks_for_simplicity(halving, [0], [1, 2, 3])

    def test_arguments_stay(self):
        lot, other = [5, 0, 2], [4, 3, 1]
        sandwiches_of(some_simple_charts(6, 1)[0], lot, other, 1, 1)
        halving(Chart.fan(6), lot, other)
        self.assertEqual(([5, 0, 2], [4, 3, 1]), (lot, other))


if __name__ == "__main__":
    unittest.main()
