"""The module balance: points [124] and [126]."""

import unittest
from itertools import combinations

from bentlines.balance import is_tight, middle_bound, middle_change
from bentlines.charts import Chart
from bentlines.convex import by_middle, middle_signs
from bentlines.errors import BadNumber, NotTriangle
from bentlines.middles import crossing_pairs, degrees, middle_chords
from bentlines.triangles import triangles, turned_over
from tests.helpers import NO_INTEGERS, DueCase, huge_simple_charts, some_simple_charts
from tests.test_middles import even_charts


class ChangeTest(DueCase):
    def test_every_small_chart(self):
        """[126] By how much the number of crossing pairs grows, and which chords change."""
        for chart in even_charts() + huge_simple_charts()[:1]:
            k, many, chords = chart.size // 2, len(crossing_pairs(chart)), set(middle_chords(chart))
            for three in triangles(chart):
                behind = turned_over(chart, three)
                change = middle_change(chart, three[::-1])
                self.assertEqual(len(crossing_pairs(behind)) - many, change)
                a, b, c = three
                inner, outer = {(a, b), (b, c)} & chords, {(a, c)} & chords
                self.assertIn((len(inner), len(outer)), {(0, 0), (2, 0), (0, 1)})
                d = degrees(chart)[b]
                self.assertEqual((d - 1) // 2 if inner else -(d + 1) // 2 if outer else 0, change)
                swapped = chords ^ {(a, b), (b, c), (a, c)} if inner or outer else chords
                self.assertEqual(swapped, set(middle_chords(behind)))
                self.assertGreaterEqual(len(chords), k)

    def test_known_charts(self):
        self.assertEqual(-1, middle_change(Chart.fan(4), (0, 1, 2)))
        # Only the meetings of lines whose names differ by 8 are in the middle.
        self.assertEqual([0] * 14, [middle_change(Chart.fan(16), (i, i + 1, i + 2)) for i in range(14)])

    def test_refusals(self):
        self.asks_for_chart(middle_change, None)
        self.asks_for_three(middle_change)
        self.asks_for_simplicity(middle_change, [2, 0, 1])
        self.due(BadNumber, {"word": "size"}, middle_change, Chart.fan(5), (0, 1, 3))
        self.due(NotTriangle, {"three": (0, 1, 3)}, middle_change, Chart.fan(4), (3, 0, 1))


class TightTest(DueCase):
    def test_every_small_chart(self):
        """[124] Each degree is 1, exactly if there are k chords, exactly if each two cross."""
        for chart in even_charts() + huge_simple_charts():
            if chart.size % 2 == 0:
                n, h = chart.size, len(middle_chords(chart))
                told = set(degrees(chart)) == {1}
                self.assertIs(told, is_tight(chart))
                self.assertIs(told, h == n // 2)
                self.assertIs(told, len(crossing_pairs(chart)) == h * (h - 1) // 2)
                self.assertTrue(n // 2 <= h <= middle_bound(n))
                if middle_signs(chart) is not None:
                    self.assertTrue(told)

    def test_known_charts(self):
        for chart in (Chart.fan(2), Chart.fan(16), -Chart.fan(4), by_middle([1, -1, 1, 1])):
            self.assertIs(True, is_tight(chart))
        self.assertIs(False, is_tight(Chart.told(4, "-+++")))
        self.assertEqual({True, False}, {is_tight(chart) for chart in some_simple_charts(6, 12)})

    def test_refusals(self):
        self.asks_for_chart(is_tight)
        self.asks_for_simplicity(is_tight)
        for size in (1, 3, 15):
            self.due(BadNumber, {"word": "size"}, is_tight, Chart.fan(size))


class BoundTest(DueCase):
    def test_numbers(self):
        """[124] The greatest h with 4 * h * h <= n * n * (n - 1)."""
        for n in list(range(1, 60)) + [10 ** 6, 10 ** 60 + 1, 4 * 10 ** 40 + 1]:
            h = middle_bound(n)
            self.assertTrue(4 * h * h <= n * n * (n - 1) < 4 * (h + 1) * (h + 1))
        self.assertEqual([0, 1, 2, 3, 5, 6], [middle_bound(n) for n in (1, 2, 3, 4, 5, 6)])
        self.assertEqual(30, middle_bound(16))
        for value in (*NO_INTEGERS, 0, -1):
            self.due(BadNumber, {"word": "size"}, middle_bound, value)


class PairsTest(DueCase):
    def test_pairs_that_cross_in_tight_charts(self):
        for chart in even_charts():
            if is_tight(chart):
                self.assertEqual(tuple(combinations(middle_chords(chart), 2)), crossing_pairs(chart))


if __name__ == "__main__":
    unittest.main()
