"""The module gaps: point [88]."""

import unittest

from bentlines.charts import Chart
from bentlines.crossings import edge_counts
from bentlines.gaps import counts_behind, edge_sum, edge_sum_told
from bentlines.triangles import triangles, turned_over
from tests.helpers import DueCase, huge_simple_charts, large_simple_charts, small_simple_charts, told_above


class GapsTest(DueCase):
    def test_every_small_chart(self):
        """[88] One meeting goes from edge h to edge h+1, or the other way."""
        for chart in small_simple_charts() + large_simple_charts()[::2] + huge_simple_charts()[:1]:
            for three in triangles(chart):
                h = 1 + len(set(told_above(chart, *three[:2])) - set(three))
                counts = list(edge_counts(chart))
                counts[h] -= chart.sign(three)
                counts[h + 1] += chart.sign(three)
                self.assertEqual(tuple(counts), counts_behind(chart, three[::-1]))
                self.assertEqual(tuple(counts), edge_counts(turned_over(chart, three)))

    def test_sums(self):
        """[88] The sum of g * x_g, told by the number of lines and of signs -."""
        for chart in small_simple_charts() + large_simple_charts() + huge_simple_charts():
            told = sum(g * many for g, many in enumerate(edge_counts(chart)))
            self.assertEqual((told, told), (edge_sum(chart), edge_sum_told(chart)))
        self.assertEqual([0, 1, 4, 10, 680], [edge_sum(Chart.fan(size)) for size in (1, 2, 3, 4, 16)])
        self.assertEqual([0, 1, 5, 14, 1240], [edge_sum_told(-Chart.fan(size)) for size in (1, 2, 3, 4, 16)])

    def test_refusals(self):
        self.asks_for_triangle(counts_behind)
        for call in (edge_sum, edge_sum_told):
            self.asks_for_chart(call)
            self.asks_for_simplicity(call)


if __name__ == "__main__":
    unittest.main()
