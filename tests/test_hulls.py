"""The module hulls: points [97] to [100]."""

import unittest
from itertools import combinations

from bentlines.charts import Chart
from bentlines.drawings import Drawing
from bentlines.hulls import hull, hull_edges, layers, lower_hull, upper_hull
from bentlines.shallow import shallow
from tests.helpers import DueCase, huge_simple_charts, large_simple_charts, small_simple_charts, told_above

ASKING = (hull, hull_edges, lower_hull, upper_hull, layers)


def charts():
    return small_simple_charts() + large_simple_charts() + huge_simple_charts()[::2]


class HullsTest(DueCase):
    def test_every_small_chart(self):
        """[98] The lines that stand highest and lowest in some row; the points of chords with none below or above."""
        for chart in charts():
            rows = list(Drawing.of(chart).rows())
            lower = tuple(sorted({row[0] for row in rows}))
            upper = tuple(sorted({row[-1] for row in rows}))
            self.assertEqual((lower, upper), (lower_hull(chart), upper_hull(chart)))
            self.assertEqual(tuple(sorted(set(lower + upper))), hull(chart))
            n = chart.size
            depths = {pair: len(told_above(chart, *pair)) for pair in combinations(range(n), 2)}
            told = tuple(pair for pair, d in depths.items() if d in (0, n - 2))
            self.assertEqual(told, hull_edges(chart))
            for points, d in ((lower, 0), (upper, n - 2)):
                self.assertEqual(list(zip(points, points[1:])), [pair for pair in depths if depths[pair] == d])

    def test_signs(self):
        """[99] The lower hull has the sign + everywhere, the upper one -; only the ends are in both."""
        for chart in charts()[1:]:
            for points, sign in ((lower_hull(chart), 1), (upper_hull(chart), -1)):
                self.assertEqual((0, chart.size - 1), (points[0], points[-1]))
                self.assertEqual({sign}, {chart.sign(three) for three in combinations(points, 3)} | {sign})
            self.assertEqual({0, chart.size - 1}, set(lower_hull(chart)) & set(upper_hull(chart)))
            if chart.size >= 3:
                ends = [point for pair in hull_edges(chart) for point in pair]
                self.assertEqual(shallow(chart, 1), len(hull(chart)))
                self.assertEqual([2] * len(hull(chart)), [ends.count(point) for point in hull(chart)])

    def test_layers(self):
        """[100] The hull, then the hull of the rest, till no point is left."""
        for chart in charts():
            left, told = list(range(chart.size)), []
            while left:
                rows = list(Drawing.of(chart.part(left)).rows())
                told.append(tuple(sorted({left[row[at]] for row in rows for at in (0, -1)})))
                left = [point for point in left if point not in told[-1]]
            found = layers(chart)
            self.assertEqual(told, found)
            self.assertTrue(all(len(layer) >= 3 for layer in found[:-1]))

    def test_few_lines(self):
        one, two = Chart.fan(1), Chart.fan(2)
        self.assertEqual([(0,), (), (0,), (0,), [(0,)]], [call(one) for call in ASKING])
        self.assertEqual([(0, 1), ((0, 1),), (0, 1), (0, 1), [(0, 1)]], [call(two) for call in ASKING])
        self.assertEqual([tuple(range(16))], layers(Chart.fan(16)))
        self.assertEqual((tuple(range(16)), (0, 15)), (lower_hull(Chart.fan(16)), upper_hull(Chart.fan(16))))
        self.assertEqual(((0, 15), tuple(range(16))), (lower_hull(-Chart.fan(16)), upper_hull(-Chart.fan(16))))

    def test_new_lists(self):
        found = layers(Chart.fan(3))
        found.append(None)
        self.assertEqual([(0, 1, 2)], layers(Chart.fan(3)))

    def test_refusals(self):
        for call in ASKING:
            self.asks_for_chart(call)
            self.asks_for_simplicity(call)


if __name__ == "__main__":
    unittest.main()
