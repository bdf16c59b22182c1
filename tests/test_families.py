"""The module families: points [196] and [197]."""

import unittest

from bentlines.charts import Chart
from bentlines.errors import Unsound
from bentlines.families import carriers, family, least_of, own_turns, same_family
from bentlines.places import all_places
from bentlines.scattered import knot_sizes
from bentlines.sides import sides
from bentlines.triangles import triangles
from tests.helpers import (UNSOUND, WITH_KNOT, DueCase, drawn_charts, huge_charts, large_charts, small_charts)


def told_ways(chart):
    """Every (times, mirrored) with the chart that it makes; rolled and mirrored by the words of [5]."""
    found, made = [], chart
    for times in range(2 * chart.size):
        found.append(((times, False), made))
        found.append(((times, True), told_mirrored(made)))
        made = told_rolled(made)
    return found


def told_mirrored(chart):
    n = chart.size
    return Chart(n, [chart.sign(sorted((n - 1 - i, n - 1 - j, n - 1 - k)))
                     for i in range(n) for j in range(i + 1, n) for k in range(j + 1, n)])


def told_rolled(chart):
    n = chart.size
    return Chart(n, [chart.sign(sorted((i - 1) % n for i in (a, b, c))) * (-1 if a == 0 else 1)
                     for a in range(n) for b in range(a + 1, n) for c in range(b + 1, n)])


class FamilyTest(DueCase):
    def test_every_small_chart(self):
        """[196] The charts that come by rolling and mirroring, each once, and the least of them."""
        for chart in small_charts() + large_charts()[::3] + huge_charts()[::4]:
            told = sorted({made.signs for _, made in told_ways(chart)})
            found = family(chart)
            self.assertIsInstance(found, list)
            self.assertEqual([Chart(chart.size, signs) for signs in told], found)
            self.assertEqual(Chart(chart.size, told[0]), least_of(chart))

    def test_carriers(self):
        """[196] [197] All ways from a chart to another one; charts of one family have the same least chart."""
        charts = [chart for size in (1, 2, 3, 4) for chart in drawn_charts(size)] + drawn_charts(5)[::9]
        for chart in charts:
            ways = told_ways(chart)
            for other in charts:
                told = [way for way, made in ways if made == other]
                found = carriers(chart, other)
                self.assertIsInstance(found, list)
                self.assertEqual(told, found)
                self.assertIs(bool(told), same_family(chart, other))
                self.assertIs(bool(told), least_of(chart) == least_of(other))
                self.assertIs(bool(told), family(chart) == family(other))

    def test_numbers(self):
        """[197] As many charts, times carriers to itself, as 4n; all charts of a family have the same numbers."""
        for chart in small_charts() + large_charts():
            found, own = family(chart), own_turns(chart)
            self.assertEqual(carriers(chart, chart), own)
            self.assertEqual(4 * chart.size, len(found) * len(own))
            if chart.size in (4, 6):
                self.assertEqual([told_numbers(chart)] * len(found), [told_numbers(other) for other in found])

    def test_few_lines(self):
        self.assertEqual([Chart.fan(1)], family(Chart.fan(1)))
        self.assertEqual([(0, False), (0, True), (1, False), (1, True)], own_turns(Chart.fan(1)))
        self.assertEqual(8, len(own_turns(Chart.fan(2))))
        self.assertEqual(([], False), (carriers(Chart.fan(2), Chart.fan(3)), same_family(Chart.fan(2), Chart.fan(3))))

    def test_refusals(self):
        for call in (family, least_of, own_turns):
            self.asks_for_chart(call)
            self.asks_for_soundness(call)
        for call in (carriers, same_family):
            self.asks_for_chart(call, None)
            self.asks_for_chart(lambda value, call=call: call(UNSOUND, value))
            self.asks_for_soundness(call, WITH_KNOT)
            self.asks_for_soundness(lambda chart, call=call: call(WITH_KNOT, chart))
            self.due(Unsound, {"four": (1, 2, 3, 4)}, call, Chart.fan(1) + UNSOUND, UNSOUND)

    def test_new_lists(self):
        for call in (family, own_turns):
            found = call(WITH_KNOT)
            told = list(found)
            found.clear()
            self.assertEqual(told, call(WITH_KNOT))


def told_numbers(chart):
    """The numbers of [197] that all charts of a family share."""
    places = list(all_places(chart))
    return (len(places), knot_sizes(chart), sorted(len(sides(chart, place)) for place in places),
            len(triangles(chart)) if chart.simple else None)


if __name__ == "__main__":
    unittest.main()
