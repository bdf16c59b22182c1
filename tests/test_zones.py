"""The module zones: points [143] and [144]."""

import unittest

from bentlines.charts import Chart
from bentlines.errors import BadKind, BadLine, BadNumber
from bentlines.lastlines import taken_out
from bentlines.places import all_places
from bentlines.sides import sides
from bentlines.zones import zone, zone_most, zone_sides, zone_sum
from tests.helpers import (NO_INTEGERS, UNSOUND, DueCase, built_charts, every_lot, huge_simple_charts,
                           large_simple_charts, small_simple_charts, told_meeting)


def with_lines(charts):
    """Simple charts of two lines or more, each with each of its lines."""
    return [(chart, line) for chart in charts if chart.size > 1 for line in range(chart.size)]


def told_zone(chart, line):
    """The lots along the order in which the line meets the others, in the names of the chart."""
    lot = set(range(line))
    found = [tuple(sorted(lot))]
    for other in told_meeting(chart, line):
        lot ^= {other}
        found.append(tuple(sorted(lot)))
    return tuple(found)


def told_sides(chart, line, lot):
    """The sides of a lot as a place of the chart without the line, in the names of the chart."""
    names = [x for x in range(chart.size) if x != line]
    found = sides(taken_out(chart, line), [names.index(x) for x in lot])
    return tuple(names[x] for x in found)


class ZoneTest(DueCase):
    def test_every_small_chart(self):
        """[143] The lots along the order, which are those that are places with the line and without it."""
        for chart, line in with_lines(small_simple_charts()):
            places = set(all_places(chart))
            others = [x for x in range(chart.size) if x != line]
            told = [lot for lot in every_lot(others) if {lot, tuple(sorted((*lot, line)))} <= places]
            found = zone(chart, line)
            self.assertEqual(told_zone(chart, line), found)
            self.assertEqual(sorted(told), sorted(found))
            self.assertEqual(chart.size, len(found))
            self.assertEqual(chart.size + len(list(all_places(taken_out(chart, line)))), len(places))

    def test_large_charts(self):
        """[143] In larger charts, too."""
        built = [chart for chart in built_charts() if chart.simple]
        for chart, line in with_lines(large_simple_charts() + huge_simple_charts() + built)[::3]:
            found = zone(chart, line)
            self.assertEqual(told_zone(chart, line), found)
            if chart.size < 9:
                places = set(all_places(chart))
                told = [place for place in places if line not in place and tuple(sorted((*place, line))) in places]
                self.assertEqual(sorted(told), sorted(found))


class SidesTest(DueCase):
    def test_sides_and_sums(self):
        """[144] The sides of each lot in the chart without the line, and those that have been met."""
        for chart, line in with_lines(small_simple_charts()) + with_lines(large_simple_charts())[::4]:
            lots, way = zone(chart, line), told_meeting(chart, line)
            told = tuple(told_sides(chart, line, lot) for lot in lots)
            self.assertEqual(told, zone_sides(chart, line))
            met = sum(len(set(way[:at]) & set(lot)) for at, lot in enumerate(told))
            self.assertEqual((met, sum(map(len, told))), zone_sum(chart, line))

    def test_bounds(self):
        """[144] At most so many sides; with two lines just so many."""
        built = with_lines([chart for chart in built_charts() if chart.simple])[::9]
        for chart, line in with_lines(small_simple_charts() + large_simple_charts()) + built:
            found, most = zone_sum(chart, line), zone_most(chart.size)
            self.assertLessEqual(found[0], most[0])
            self.assertLessEqual(found[1], most[1])
            if chart.size == 2:
                self.assertEqual(most, found)

    def test_numbers(self):
        self.assertEqual([(1, 2), (3, 6), (6, 12), (9, 18), (42, 84)], [zone_most(n) for n in (2, 3, 4, 5, 16)])
        for value in (*NO_INTEGERS, -1, 0, 1, 17):
            self.due(BadNumber, {"word": "size"}, zone_most, value)

    def test_two_lines(self):
        chart = Chart.fan(2)
        self.assertEqual([((), (1,)), ((0,), ())], [zone(chart, line) for line in (0, 1)])
        self.assertEqual([((1,), (1,)), ((0,), (0,))], [zone_sides(chart, line) for line in (0, 1)])
        self.assertEqual([(1, 2), (1, 2)], [zone_sum(chart, line) for line in (0, 1)])

    def test_refusals(self):
        for call in (zone, zone_sides, zone_sum):
            self.asks_for_chart(call, None)
            self.asks_for_line(call)
            self.asks_for_simplicity(call, 2)
            self.due(BadLine, {"line": 1}, call, Chart.fan(1), 1)
            self.due(BadKind, {"word": "lot"}, call, Chart.fan(1), 0)
            self.due(BadLine, {"line": 4}, call, UNSOUND, 4)


if __name__ == "__main__":
    unittest.main()
