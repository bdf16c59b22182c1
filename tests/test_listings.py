"""The module listings."""

import unittest

from bentlines.charts import Chart
from bentlines.convex import convex_count
from bentlines.crossings import edge_counts
from bentlines.cups import cap_size, cup_size
from bentlines.doors import door_table
from bentlines.drawings import Drawing
from bentlines.errors import BadKind, NotPlace
from bentlines.hulls import hull
from bentlines.links import knots_of
from bentlines.listings import census, door_lines, sheet_lines
from bentlines.places import all_places
from bentlines.polygons import round_size
from bentlines.sheets import Sheet
from bentlines.steps import steps_of
from bentlines.triangles import triangles
from tests.helpers import (DueCase, few_charts, huge_charts, huge_simple_charts, large_simple_charts, small_charts,
                           small_simple_charts)


class DoorLinesTest(DueCase):
    def test_every_small_chart(self):
        """The edge, the left and the right doors, each right-aligned in 4 characters."""
        for chart in few_charts() + huge_charts()[::2]:
            for place in list(all_places(chart))[::1 if chart.size < 6 else 12]:
                told = ["".join(str(number).rjust(4) for number in (at, *pair))
                        for at, pair in enumerate(door_table(chart, place), start=1)]
                found = door_lines(chart, place[::-1])
                self.assertIsInstance(found, list)
                self.assertEqual(told, found)
        self.assertEqual([], door_lines(Chart.fan(1), [0]))
        self.assertEqual(["   1   0   1", "  15   0   1"], door_lines(Chart.fan(16), (0, 1))[::14])

    def test_refusals(self):
        self.asks_for_chart(door_lines, None)
        self.asks_for_lot(door_lines)
        self.asks_for_soundness(door_lines, [0, 2])
        self.due(NotPlace, {"three": (0, 2, 3)}, door_lines, Chart.fan(4), [3, 1, 0])


class SheetLinesTest(DueCase):
    def test_every_small_chart(self):
        """The name, the number of lines, the edge counts of a simple chart, the knots and the kept deeds."""
        for chart in small_charts():
            sheet = Sheet(Drawing.of(chart))
            told = ["name: ", f"lines: {chart.size}", f"knots: {len(knots_of(chart))}", "done: 0"]
            if chart.simple:
                told.insert(2, "edges: " + " ".join(map(str, edge_counts(chart)[1:])))
            found = sheet_lines(sheet)
            self.assertIsInstance(found, list)
            self.assertEqual(told, found)

    def test_names_and_deeds(self):
        sheet = Sheet(Drawing.of(Chart.fan(1)), most=2)
        sheet.name = "a b: c"
        for _ in range(3):
            sheet.mirror()
        self.assertEqual(["name: a b: c", "lines: 1", "edges: ", "knots: 0", "done: 2"], sheet_lines(sheet))
        sheet.become(Chart(16, [0] * 560))
        self.assertEqual(["name: a b: c", "lines: 16", "knots: 1", "done: 2"], sheet_lines(sheet))
        sheet.become(Chart.fan(16))
        self.assertEqual("edges: 15 14 13 12 11 10 9 8 7 6 5 4 3 2 1", sheet_lines(sheet)[2])

    def test_refusals(self):
        for value in (None, 3, "sheet", Chart.fan(3), Drawing.of(Chart.fan(3))):
            self.due(BadKind, {"word": "sheet"}, sheet_lines, value)


class CensusTest(DueCase):
    def test_simple_charts(self):
        """The eight numbers, each with its word."""
        for chart in small_simple_charts() + large_simple_charts()[::3] + huge_simple_charts()[::3]:
            told = (("triangles", len(triangles(chart))), ("places", len(list(all_places(chart)))),
                    ("convex", convex_count(chart)), ("hull", len(hull(chart))), ("cup", cup_size(chart)),
                    ("cap", cap_size(chart)), ("round", round_size(chart)), ("steps", len(steps_of(chart))))
            self.assertEqual(told, census(chart))

    def test_one_line_and_the_fan(self):
        words = ("triangles", "places", "convex", "hull", "cup", "cap", "round", "steps")
        self.assertEqual(tuple(zip(words, (0, 2, 0, 1, 1, 1, 1, 0))), census(Chart.fan(1)))
        self.assertEqual(tuple(zip(words, (0, 4, 0, 2, 2, 2, 2, 1))), census(Chart.fan(2)))
        self.assertEqual(tuple(zip(words, (14, 137, 1820, 16, 16, 2, 16, 29))), census(Chart.fan(16)))

    def test_refusals(self):
        self.asks_for_chart(census)
        self.asks_for_simplicity(census)


if __name__ == "__main__":
    unittest.main()
