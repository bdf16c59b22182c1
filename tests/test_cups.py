"""The module cups: points [151] to [153]."""

import unittest
from itertools import combinations, product
from math import comb

from bentlines.charts import Chart
from bentlines.cups import (cap_size, cup_size, cup_table, is_cap, is_cup, is_cup_table, longest_cap, longest_cup,
                            most_lines)
from bentlines.errors import BadKind, BadLine, BadNumber
from tests.helpers import (NO_CHARTS, NO_INTEGERS, NO_LISTS, UNSOUND, WITH_KNOT, DueCase, every_lot,
                           built_charts, huge_simple_charts, large_charts, large_simple_charts, middle_charts,
                           small_charts, small_simple_charts)

NO_SIGNS = (*NO_INTEGERS, 0, 2, -2)
CALLS = ((is_cup, longest_cup, cup_size, 1), (is_cap, longest_cap, cap_size, -1))


def told_bow(chart, lot, sign):
    """Whether a lot is a cup or a cap, by the words of [151]."""
    names = sorted(lot)
    return bool(names) and all(chart.sign(names[at:at + 3]) == sign for at in range(len(names) - 2))


def told_table(chart, sign):
    """The least table, by the words of [152]: for each two lines, the longest of all cups that end with them."""
    n = chart.size
    table = [[0] * n for _ in range(n)]
    for lot in every_lot(range(n)):
        if len(lot) > 1 and told_bow(chart, lot, sign):
            u, v = lot[-2:]
            table[v][u] = max(table[v][u], len(lot))
    return tuple(map(tuple, table))


def some_charts():
    return small_simple_charts() + large_simple_charts()[::2]


class BowTest(DueCase):
    def test_every_small_chart(self):
        """[151] Each three neighbours have the sign; so all threes have it."""
        for chart in small_charts() + large_charts()[::4]:
            for lot in every_lot(range(chart.size))[1:]:
                for call, _, _, sign in CALLS:
                    found = call(chart, lot[::-1])
                    self.assertIs(told_bow(chart, lot, sign), found)
                    self.assertIs(all(chart.sign(three) == sign for three in combinations(lot, 3)), found)
                if len(lot) < 3:
                    self.assertEqual((True, True), (is_cup(chart, lot), is_cap(chart, list(lot))))
                else:
                    self.assertFalse(is_cup(chart, lot) and is_cap(chart, lot))

    def test_refusals(self):
        for call, _, _, _ in CALLS:
            self.asks_for_chart(call, None)
            self.asks_for_lot(call)
            for value in ([], ()):
                self.due(BadKind, {"word": "lot"}, call, UNSOUND, value)
            self.asks_for_soundness(call, [0])
            # Simple it need not be.
            self.assertEqual((True, False), (call(WITH_KNOT, [1, 0]), call(WITH_KNOT, [2, 1, 0])))


class TableTest(DueCase):
    def test_every_small_chart(self):
        """[152] The least table has the longest cups that end with two lines."""
        for chart in some_charts():
            for _, _, _, sign in CALLS:
                found = cup_table(chart, sign)
                self.assertEqual(told_table(chart, sign), found)
                self.assertTrue(is_cup_table(chart, sign, found))

    def test_least(self):
        """[152] An entry less than the least is refused; greater ones only if those that rest on them are, too."""
        for chart in some_charts()[1::3]:
            n = chart.size
            for _, _, _, sign in CALLS:
                least = cup_table(chart, sign)
                for u, v in combinations(range(n), 2):
                    table = [list(row) for row in least]
                    table[v][u] -= 1
                    self.assertIs(False, is_cup_table(chart, sign, table))
                    table[v][u] += 2
                    told = all(table[w][v] > table[v][u] for w in range(v + 1, n) if chart[u, v, w] == sign)
                    self.assertIs(told, is_cup_table(chart, sign, table))
                for more in (1, 10 ** 50):
                    table = [[entry + more * max(v, u) for u, entry in enumerate(row)] for v, row in enumerate(least)]
                    self.assertIs(True, is_cup_table(chart, sign, table))

    def test_words(self):
        """[152] Word by word, over many tables: at least 2, at least 1 + [u][t] where the sign is right."""
        chart = Chart.told(4, "++--")
        for a, b, c, d in product(range(1, 5), repeat=4):
            table = ((9, 0, 9, 9), [2, -9, 9, 9], (a, b, 0, 0), [2, c, d, -1])
            self.assertIs(a >= 2 and b >= 3 and c >= 3 and d >= 2, is_cup_table(chart, 1, table))
            self.assertIs(a >= 2 and b >= 2 and c >= 2 and d >= 1 + max(a, b), is_cup_table(chart, -1, table))

    def test_few_lines(self):
        for _, _, _, sign in CALLS:
            self.assertEqual(((0,),), cup_table(Chart.fan(1), sign))
            self.assertEqual(((0, 0), (2, 0)), cup_table(Chart.fan(2), sign))
            self.assertIs(True, is_cup_table(Chart.fan(1), sign, [[7]]))
            self.assertIs(False, is_cup_table(Chart.fan(2), sign, [[7, 7], [1, 7]]))

    def test_refusals(self):
        for value in NO_CHARTS:
            self.due(BadKind, {"word": "chart"}, cup_table, value, None)
            self.due(BadKind, {"word": "chart"}, is_cup_table, value, None, None)
        for value in NO_SIGNS:
            self.due(BadNumber, {"word": "sign"}, cup_table, UNSOUND, value)
            self.due(BadNumber, {"word": "sign"}, is_cup_table, UNSOUND, value, None)
        row = [0, 0, 0, 0]
        wrong_rows = [*NO_LISTS, [], row[1:], (*row, 0), [0, 0, 0, None], (0, True, 0, 0), [0, 0, 1.0, 0], "0000"]
        for value in [*NO_LISTS, [], [row] * 3, [row] * 5, *[[row, row, row, wrong] for wrong in wrong_rows]]:
            self.due(BadKind, {"word": "table"}, is_cup_table, UNSOUND, 1, value)
        self.asks_for_simplicity(cup_table, -1)
        self.asks_for_soundness(lambda chart: is_cup_table(chart, 1, [[0] * chart.size] * chart.size))
        self.asks_for_simplicity(lambda chart: is_cup_table(chart, 1, [[0] * chart.size] * chart.size))


class LongestTest(DueCase):
    def test_small_charts(self):
        """[152] As many lines as there can be; the greatest entry of the least table."""
        for chart in some_charts():
            for call, longest, size, sign in CALLS:
                found = longest(chart)
                self.assertEqual(tuple(sorted(found)), found)
                self.assertTrue(call(chart, found))
                told = max(len(lot) for lot in every_lot(range(chart.size)) if told_bow(chart, lot, sign))
                self.assertEqual((told, told), (len(found), size(chart)))
                if chart.size > 1:
                    self.assertEqual(told, max(map(max, cup_table(chart, sign))))

    def test_huge_charts(self):
        for chart in huge_simple_charts():
            for call, longest, size, sign in CALLS:
                found = longest(chart)
                self.assertTrue(call(chart, found))
                self.assertEqual((size(chart), size(chart)), (len(found), max(map(max, cup_table(chart, sign)))))

    def test_charts_told_by_the_middle(self):
        """[152] There a lot is a cup exactly if all its points but the first and the last have the sign +."""
        for chart, signs in middle_charts():
            n = chart.size
            for _, longest, size, sign in CALLS:
                many = [0] + [signs[:u].count(sign) for u in range(n - 1)]
                told = [[0] * n for _ in range(n)]
                for u, v in combinations(range(n), 2):
                    told[v][u] = 3 + many[u] if u > 0 and signs[u - 1] == sign else 2
                self.assertEqual(tuple(map(tuple, told)), cup_table(chart, sign))
                self.assertEqual(2 + signs.count(sign), size(chart))
                self.assertEqual((0, *[j for j in range(1, n - 1) if signs[j - 1] == sign], n - 1), longest(chart))

    def test_built_charts(self):
        """[151] [152] Bricks, stairs, the fan: the longest are what they are said to be, and the tables are tables."""
        for chart in [chart for chart in built_charts() if chart.simple]:
            for call, longest, size, sign in CALLS:
                found, table = longest(chart), cup_table(chart, sign)
                self.assertTrue(call(chart, found))
                self.assertIs(True, is_cup_table(chart, sign, table))
                self.assertEqual((size(chart), max(map(max, table))), (len(found), len(found)))
            self.assertLessEqual(chart.size, most_lines(cup_size(chart), cap_size(chart)))

    def test_fans_and_one_line(self):
        for n in (2, 3, 16):
            fan = Chart.fan(n)
            self.assertEqual((tuple(range(n)), n, 2), (longest_cup(fan), cup_size(fan), cap_size(fan)))
            self.assertEqual((tuple(range(n)), n, 2), (longest_cap(-fan), cap_size(-fan), cup_size(-fan)))
        self.assertEqual(((0,), (0,), 1, 1), (longest_cup(Chart.fan(1)), longest_cap(Chart.fan(1)),
                                              cup_size(Chart.fan(1)), cap_size(Chart.fan(1))))

    def test_most_lines(self):
        """[153] No chart with these sizes has more lines."""
        for chart in some_charts() + huge_simple_charts():
            a, b = cup_size(chart), cap_size(chart)
            self.assertLessEqual(chart.size, most_lines(a, b))
        self.assertEqual([[comb(a + b - 2, a - 1) for b in range(1, 9)] for a in range(1, 9)],
                         [[most_lines(a, b) for b in range(1, 9)] for a in range(1, 9)])
        self.assertEqual((1, 1, 500), (most_lines(1, 10 ** 100), most_lines(10 ** 100, 1), most_lines(2, 500)))

    def test_refusals(self):
        for value in (*NO_INTEGERS, 0, -1):
            self.due(BadNumber, {"word": "cup"}, most_lines, value, None)
            self.due(BadNumber, {"word": "cap"}, most_lines, 1, value)
        for _, longest, size, _ in CALLS:
            for call in (longest, size):
                self.asks_for_chart(call)
                self.asks_for_simplicity(call)
        self.due(BadLine, {"line": 4}, is_cup, UNSOUND, [4])

    def test_arguments_stay(self):
        lot, table = [2, 0, 1], [[0, 0, 0], [2, 0, 0], [2, 3, 0]]
        self.assertEqual((True, True), (is_cup(Chart.fan(3), lot), is_cup_table(Chart.fan(3), 1, table)))
        self.assertEqual(([2, 0, 1], [[0, 0, 0], [2, 0, 0], [2, 3, 0]]), (lot, table))


if __name__ == "__main__":
    unittest.main()
