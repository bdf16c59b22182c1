"""The module middles: points [121] to [125] and [129]."""

import unittest
from itertools import combinations

from bentlines.charts import Chart
from bentlines.convex import by_middle
from bentlines.errors import BadKind, BadLine, BadNumber, NotPlace
from bentlines.fours import cross
from bentlines.middles import balance_of, crossing_pairs, degrees, middle_chords, parted, partners
from bentlines.places import all_places
from tests.helpers import (NO_INTEGERS, UNSOUND, DueCase, huge_simple_charts, large_simple_charts, simple_charts,
                           some_simple_charts, told_above, told_meeting)

ASKING = (middle_chords, degrees, crossing_pairs, balance_of)


def even_charts():
    """Simple charts of evenly many lines."""
    found = [chart for size in (2, 4) for chart in simple_charts(size)] + some_simple_charts(6, 12)
    return found + some_simple_charts(10, 3) + [chart for chart in large_simple_charts() if chart.size % 2 == 0]


def told_chords(chart):
    """The middle chords by the words of [121]: with as many lines above as below."""
    return [pair for pair in combinations(range(chart.size), 2)
            if 2 * len(told_above(chart, *pair)) == chart.size - 2]


class MiddlesTest(DueCase):
    def test_every_small_chart(self):
        """[121] [123] The chords, the degrees, the crossing pairs, and the balance of them."""
        for chart in even_charts() + huge_simple_charts()[::5]:
            chords = told_chords(chart)
            ends = [point for chord in chords for point in chord]
            told = tuple(ends.count(point) for point in range(chart.size))
            pairs = tuple(pair for pair in combinations(chords, 2) if cross(chart, *pair))
            self.assertEqual((tuple(chords), told, pairs),
                             (middle_chords(chart), degrees(chart), crossing_pairs(chart)))
            total = chart.size * (chart.size - 1)
            self.assertEqual((sum(d * d for d in told), len(pairs), total), balance_of(chart))
            self.assertEqual(total, sum(d * d for d in told) + 8 * len(pairs))

    def test_partners(self):
        """[121] [122] Lesser and greater partners, by turns along the line."""
        for chart in even_charts() + huge_simple_charts()[:1]:
            chords, n = told_chords(chart), chart.size
            for point in range(n):
                lesser = tuple(a for a, b in chords if b == point)
                greater = tuple(b for a, b in chords if a == point)
                self.assertEqual((lesser, greater), partners(chart, point))
                self.assertEqual(1 if point < n // 2 else -1, len(greater) - len(lesser))
                met = [other > point for other in told_meeting(chart, point) if other in lesser + greater]
                self.assertEqual([(at % 2 == 0) == (point < n // 2) for at in range(len(met))], met)

    def test_known_charts(self):
        """[123] [124] The fan, and all charts told by the middle, have all degrees 1."""
        for size in (2, 4, 6, 16):
            k = size // 2
            self.assertEqual(tuple((i, i + k) for i in range(k)), middle_chords(Chart.fan(size)))
            self.assertEqual(k * (k - 1) // 2, len(crossing_pairs(Chart.fan(size))))
        self.assertEqual((1,) * 8, degrees(by_middle([1, -1, -1, 1, 1, -1])))
        self.assertEqual(((), (1,)), partners(Chart.fan(2), 0))
        self.assertEqual(((0,), ()), partners(Chart.fan(2), 1))
        self.assertEqual((2, 0, 2), balance_of(Chart.fan(2)))

    def test_contrary_and_mirrored(self):
        """[129] The same chords in the contrary chart; in the mirrored chart, lines renamed."""
        for chart in even_charts()[::2]:
            n = chart.size
            self.assertEqual([middle_chords(chart), crossing_pairs(chart), degrees(chart)],
                             [middle_chords(-chart), crossing_pairs(-chart), degrees(-chart)])
            self.assertEqual(sorted((n - 1 - b, n - 1 - a) for a, b in middle_chords(chart)),
                             list(middle_chords(~chart)))
            self.assertEqual(degrees(chart)[::-1], degrees(~chart))
            self.assertEqual(len(crossing_pairs(chart)), len(crossing_pairs(~chart)))

    def test_parted(self):
        """[125] The chords with one end in the place, min(j, n-j) of them."""
        for chart in even_charts() + huge_simple_charts()[-1:]:
            chords = told_chords(chart)
            for place in list(all_places(chart))[::1 if chart.size < 9 else 7]:
                found = parted(chart, place[::-1])
                told = tuple(pair for pair in chords if len(set(pair) & set(place)) == 1)
                self.assertEqual(told, found)
                self.assertEqual(min(len(place), chart.size - len(place)), len(found))

    def test_refusals(self):
        for call in ASKING:
            self.asks_for_chart(call)
            self.asks_for_simplicity(call)
            for size in (1, 3, 15):
                self.due(BadNumber, {"word": "size"}, call, Chart.fan(size))
        self.asks_for_chart(partners, None)
        self.asks_for_line(partners)
        self.asks_for_simplicity(partners, 3)
        self.due(BadNumber, {"word": "size"}, partners, Chart.fan(5), 4)
        self.due(BadLine, {"line": 5}, partners, Chart.fan(5), 5)

    def test_refused_places(self):
        self.asks_for_chart(parted, None)
        self.asks_for_lot(parted)
        self.asks_for_simplicity(parted, [0, 2])
        self.due(BadNumber, {"word": "size"}, parted, Chart.fan(5), [0, 2])
        self.due(NotPlace, {"three": (0, 2, 3)}, parted, Chart.fan(4), [3, 1, 0])
        self.due(BadKind, {"word": "lot"}, parted, Chart.fan(5), None)
        for value in NO_INTEGERS:
            self.due(BadLine, {"line": value}, parted, UNSOUND, [value])


if __name__ == "__main__":
    unittest.main()
