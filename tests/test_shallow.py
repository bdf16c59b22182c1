"""The module shallow: points [91] to [95]."""

import unittest
from itertools import combinations

from bentlines.charts import Chart
from bentlines.errors import BadNumber
from bentlines.shallow import passing, shallow, shallow_least, shallow_list, split_off, swept
from bentlines.triangles import triangles, turned_over
from tests.helpers import (NO_INTEGERS, UNSOUND, DueCase, huge_simple_charts, large_simple_charts,
                           small_simple_charts, told_above, told_meeting)


def charts():
    return small_simple_charts() + large_simple_charts()


def told_shallow(chart, k):
    """How many meetings have fewer than k lines above them or fewer than k lines below, by the words of [91]."""
    depths = [len(told_above(chart, *pair)) for pair in combinations(range(chart.size), 2)]
    return len([d for d in depths if d < k or chart.size - 2 - d < k])


def with_depths(found, least=1):
    return [(chart, k) for chart in found for k in range(least, chart.size) if 2 * k < chart.size]


def told_passing(chart, k):
    """The pairs whose meetings pass, by the words of [93]: whether line 0 is above, and the pair."""
    n = chart.size
    rest = chart.part(list(range(1, n)))
    found = []
    for pair in combinations(range(1, n), 2):
        edge = 1 + len(told_above(rest, pair[0] - 1, pair[1] - 1))
        over = 0 in told_above(chart, *pair)
        if (edge == k and not over) or (edge == n - 1 - k and over):
            found.append((over, pair))
    return found


class ShallowTest(DueCase):
    def test_every_small_chart(self):
        """[91] [92] The numbers for all depths; none is less than the bound."""
        for chart in charts() + huge_simple_charts()[:2]:
            told = tuple(told_shallow(chart, k) for k in range(chart.size) if 2 * k < chart.size)
            self.assertEqual(told, shallow_list(chart))
            for k, many in enumerate(told):
                self.assertEqual(many, shallow(chart, k))
                self.assertGreaterEqual(many, shallow_least(k))
                if 2 * k == chart.size - 1:
                    self.assertEqual(chart.size * (chart.size - 1) // 2, many)

    def test_few_lines(self):
        self.assertEqual([(0,), (0,), (0, 3), (0, 4)], [shallow_list(Chart.fan(size)) for size in (1, 2, 3, 4)])
        self.assertEqual(tuple(16 * k for k in range(8)), shallow_list(Chart.fan(16)))

    def test_least(self):
        self.assertEqual([0, 3, 9, 18, 30, 45], [shallow_least(k) for k in range(6)])
        self.assertEqual(3 * 10 ** 80 * (10 ** 80 + 1) // 2, shallow_least(10 ** 80))
        for value in (*NO_INTEGERS, -1):
            self.due(BadNumber, {"word": "depth"}, shallow_least, value)

    def test_contrary_and_mirrored(self):
        """[95] The contrary and the mirrored chart have the same numbers."""
        for chart in charts() + huge_simple_charts()[:1]:
            self.assertEqual([shallow_list(chart)] * 2, [shallow_list(-chart), shallow_list(~chart)])

    def test_turned_triangles(self):
        """[95] What a turned triangle changes."""
        for chart, k in with_depths(charts()[::2]):
            for three in triangles(chart):
                h = 1 + len(set(told_above(chart, *three[:2])) - set(three))
                more = chart.sign(three) * ((h == chart.size - 1 - k) - (h == k))
                self.assertEqual(shallow(chart, k) + more, shallow(turned_over(chart, three), k))

    def test_refusals(self):
        self.asks_for_chart(shallow, None)
        for value in (*NO_INTEGERS, -1, 2, 4):
            self.due(BadNumber, {"word": "depth"}, shallow, UNSOUND, value)
        for chart, most in ((Chart.fan(1), 0), (Chart.fan(2), 0), (Chart.fan(5), 2), (Chart.fan(16), 7)):
            shallow(chart, most)
            self.due(BadNumber, {"word": "depth"}, shallow, chart, most + 1)
        self.asks_for_simplicity(shallow, 0)
        self.asks_for_chart(shallow_list)
        self.asks_for_simplicity(shallow_list)


class PassingTest(DueCase):
    def test_every_small_chart(self):
        """[93] The meetings that pass, and the three numbers whose sum is the shallow number."""
        for chart, k in with_depths(charts()) + with_depths(huge_simple_charts()[:1], 5):
            told = [pair for _, pair in told_passing(chart, k)]
            self.assertEqual(told, passing(chart, k))
            rest = chart.part(list(range(1, chart.size)))
            self.assertEqual((told_shallow(rest, k - 1), 2 * k, len(told)), split_off(chart, k))
            self.assertEqual(shallow(chart, k), sum(split_off(chart, k)))

    def test_swept(self):
        """[94] The first and the last lines that line 0 meets, and how many meetings pass at least."""
        for chart, k in with_depths(charts()) + with_depths(huge_simple_charts()[:2], 6):
            way, n = told_meeting(chart, 0), chart.size
            first, last = swept(chart, k)
            self.assertEqual((tuple(sorted(way[:k])), tuple(sorted(way[n - 1 - k:]))), (first, last))
            self.assertFalse(set(first) & set(last))
            over = [above for above, _ in told_passing(chart, k)]
            top = set(range(n - k, n))
            self.assertGreaterEqual(len(over), k)
            self.assertGreaterEqual(over.count(False), len(top - set(first)))
            self.assertGreaterEqual(over.count(True), len(top - set(last)))

    def test_new_lists(self):
        found = passing(Chart.fan(5), 1)
        found.append(None)
        self.assertEqual([(1, 2), (2, 3), (3, 4)], passing(Chart.fan(5), 1))

    def test_refusals(self):
        for call in (split_off, passing, swept):
            self.asks_for_chart(call, None)
            for value in (*NO_INTEGERS, -1, 0, 2, 4):
                self.due(BadNumber, {"word": "depth"}, call, UNSOUND, value)
            for size in (1, 2):
                self.due(BadNumber, {"word": "depth"}, call, Chart.fan(size), 1)
            call(Chart.fan(16), 7)
            self.due(BadNumber, {"word": "depth"}, call, Chart.fan(16), 8)
            self.asks_for_simplicity(call, 1)


if __name__ == "__main__":
    unittest.main()
