"""The examples of the document that use the modules that are there, and what is told beside them."""

import unittest

from bentlines.charts import Chart
from bentlines.drawings import Drawing
from bentlines.errors import BadText
from bentlines.links import closed, ready
from bentlines.rules import ahead, meetings, ring
from bentlines.texts import chart_from


class ExamplesTest(unittest.TestCase):
    def test_rules(self):
        chart = Chart.told(4, "++0-")
        bad = Chart.told(4, "+-++")
        found = (meetings(chart, 2), ahead(chart, 2, 1, 3), bad.bad, ring(bad, 2), sorted(ring(bad, 1)))
        self.assertEqual((((0, 3), (1,)), -1, (0, 1, 2, 3), None, [0, 2, 3]), found)

    def test_charts(self):
        chart = Chart.told(4, "+++0")
        found = ((chart >> 1).marks, (~chart).marks, (-chart).marks, chart[2, 1, 0], chart.part([3, 0, 1]).marks)
        self.assertEqual(("--0+", "0+++", "---0", -1, "+"), found)

    def test_texts(self):
        with self.assertRaises(BadText) as caught:
            chart_from("lines 4\n\nsigns ++")
        self.assertEqual(3, caught.exception.number)

    def test_drawings(self):
        self.assertEqual(((0, 2), (1, 2), (0, 2), (2, 2), (1, 2), (0, 2)), Drawing.of(Chart.fan(4)).turns)
        self.assertEqual(((0, 3), (2, 2), (1, 2), (0, 2)), Drawing.of(Chart.told(4, "0+++")).turns)
        other = Drawing(4, ((0, 2), (1, 2), (2, 2), (0, 2), (1, 2), (0, 2)))
        self.assertEqual(((0, 1), (0, 2), (0, 3), (1, 2), (1, 3), (2, 3)), other.knots())

    def test_links(self):
        chart = Chart.fan(4)
        lot = closed(chart, [[2, 0]])
        self.assertEqual((((0, 1), (0, 2)), ((0, 3), (1, 2))), (lot, ready(chart, lot)))


if __name__ == "__main__":
    unittest.main()
