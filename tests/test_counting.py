"""The module counting: point [139]."""

import inspect
import unittest

from bentlines.charts import Chart
from bentlines.counting import all_charts, chart_count, extensions
from bentlines.errors import BadNumber, TooMany
from bentlines.lastlines import count_orders, orders, taken_out
from tests.helpers import (NO_INTEGERS, UNSOUND, DueCase, large_charts, large_simple_charts, simple_charts)
from tests.test_lastlines import some_charts_of_four, told_put_in


def first_of(call):
    """A function that begins the iteration of what the call returns."""
    return lambda *given: next(call(*given))


class AllChartsTest(DueCase):
    def test_every_size(self):
        """[139] All simple sound charts, in ascending order of their signs."""
        for size in (1, 2, 3, 4, 5):
            found = list(all_charts(size))
            self.assertEqual(simple_charts(size), found)
            self.assertEqual(sorted(chart.signs for chart in found), [chart.signs for chart in found])
        self.assertTrue(inspect.isgenerator(all_charts(3)))

    def test_numbers(self):
        """[139] 1, 1, 2, 8, 62, 908."""
        self.assertEqual([1, 1, 2, 8, 62, 908], [chart_count(size) for size in (1, 2, 3, 4, 5, 6)])
        self.assertEqual([1, 1, 2, 8, 62], [len(list(all_charts(size))) for size in (1, 2, 3, 4, 5)])
        self.assertEqual(908, sum(len(list(extensions(chart))) for chart in all_charts(5)))

    def test_refusals(self):
        for value in (*NO_INTEGERS, 0, -1, 6, 16):
            self.due(BadNumber, {"word": "size"}, first_of(all_charts), value)
        for value in (*NO_INTEGERS, 0, -1, 7, 16):
            self.due(BadNumber, {"word": "size"}, chart_count, value)
        # Nothing is asked before the iteration begins.
        all_charts(None)


class ExtensionsTest(DueCase):
    def test_every_small_chart(self):
        """[139] What comes by putting in a line of the last name, in ascending order of the signs."""
        for chart in some_charts_of_four():
            n = chart.size
            told = sorted((told_put_in(chart, n, order) for order in orders(chart, n)), key=lambda made: made.signs)
            self.assertEqual(told, list(extensions(chart)))

    def test_each_chart_comes_just_once(self):
        """[138] [139] Each simple chart is an extension of the one without its last line, and of no other one."""
        for size in (2, 3, 4, 5):
            found = [made for chart in simple_charts(size - 1) for made in extensions(chart)]
            self.assertEqual(simple_charts(size), sorted(found, key=lambda made: made.signs))

    def test_large_charts(self):
        for chart in large_simple_charts()[::4] + large_charts()[::4]:
            found = list(extensions(chart))
            self.assertEqual(count_orders(chart, chart.size), len(found))
            self.assertEqual(sorted({made.signs for made in found}), [made.signs for made in found])
            for made in found[::20]:
                self.assertTrue(made.sound)
                self.assertEqual(chart, taken_out(made, chart.size))

    def test_many_lines(self):
        made = list(extensions(Chart(15, [0] * 455)))
        self.assertEqual([(-1, 0), (0, 1)], [tuple(sorted(set(chart.signs))) for chart in made])
        self.assertEqual([16, 16], [chart.size for chart in made])

    def test_refusals(self):
        call = first_of(extensions)
        self.asks_for_chart(call)
        self.asks_for_soundness(call)
        huge = UNSOUND + UNSOUND + UNSOUND + UNSOUND
        for chart in (Chart.fan(16), huge, Chart(16, [0] * 560)):
            self.due(TooMany, {"word": "lines"}, call, chart)
        # The fan of 13 lines has 4096 orders, that of 14 lines 8192.
        self.due(TooMany, {"word": "orders"}, call, Chart.fan(14))
        self.assertEqual(14, next(extensions(Chart.fan(13))).size)
        extensions(None)


if __name__ == "__main__":
    unittest.main()
