"""The examples of the document that use the modules that are there, and what is told beside them."""

import unittest

from bentlines.charts import Chart
from bentlines.crossings import above, depth, edge_counts, knots_over
from bentlines.drawings import Drawing
from bentlines.drawn import count_rows, row_after
from bentlines.ends import first_knots, last_knots
from bentlines.errors import BadText
from bentlines.exchanges import exchanged, orders_apart
from bentlines.links import closed, ready
from bentlines.loose import loosenings
from bentlines.places import all_places, wrong_count
from bentlines.rules import ahead, meetings, ring
from bentlines.sides import across, left_corner, lower_sides, right_corner, upper_sides
from bentlines.steps import longest_chain, steps_of
from bentlines.texts import chart_from
from bentlines.ties import parting, tie_lots, tied


class ExamplesTest(unittest.TestCase):
    def test_rules(self):
        chart = Chart.told(4, "++0-")
        bad = Chart.told(4, "+-++")
        found = (meetings(chart, 2), ahead(chart, 2, 1, 3), bad.bad, ring(bad, 2), sorted(ring(bad, 1)))
        self.assertEqual((((0, 3), (1,)), -1, (0, 1, 2, 3), None, [0, 2, 3]), found)

    def test_charts(self):
        chart = Chart.told(4, "+++0")
        found = ((chart >> 1).marks, (~chart).marks, (-chart).marks, chart[2, 1, 0], chart.part([3, 0, 1]).marks)
        self.assertEqual(("--0+", "0+++", "---0", -1, "+"), found)

    def test_texts(self):
        with self.assertRaises(BadText) as caught:
            chart_from("lines 4\n\nsigns ++")
        self.assertEqual(3, caught.exception.number)

    def test_exchanges(self):
        drawing = Drawing.of(Chart.fan(4))
        other = exchanged(drawing, 2)
        told = (((0, 2), (1, 2), (0, 2), (2, 2), (1, 2), (0, 2)),
                ((0, 1), (0, 2), (0, 3), (1, 2), (1, 3), (2, 3)), 1)
        self.assertEqual(told, (drawing.turns, other.knots(), orders_apart(drawing, other)))

    def test_rows(self):
        chart = Chart.fan(4)
        lot = closed(chart, [[2, 0]])
        told = (((0, 1), (0, 2)), ((0, 3), (1, 2)), (1, 2, 0, 3), 8)
        self.assertEqual(told, (lot, ready(chart, lot), row_after(chart, lot), count_rows(chart)))

    def test_steps(self):
        chart = Chart.told(4, "0+++")
        told = (((0, 3), (2, 2), (1, 2), (0, 2)), [(0, 1, 2), (0, 3), (1, 3), (2, 3)], [(0, 3), (1, 2)])
        self.assertEqual(told, (Drawing.of(chart).turns, longest_chain(chart), steps_of(Chart.fan(4))[2]))

    def test_crossings(self):
        chart = Chart.fan(4)
        self.assertEqual(((1, 2), 1, (0, 3, 2, 1)), (above(chart, (3, 0)), depth(chart, (0, 2)), edge_counts(chart)))

    def test_ties(self):
        chart = Chart.fan(4)
        found = (tie_lots(chart), parting(chart, (0, 1, 3)), tied(chart, [2, 1, 0]).marks)
        self.assertEqual((((0, 1, 2), (0, 1, 2, 3), (1, 2, 3)), (2, (0, 1), (0, 3)), "0+++"), found)

    def test_loosenings_and_ends(self):
        chart = Chart.told(4, "0+++")
        found = list(loosenings(chart))
        told = (2, "-+++", "++++", ((0, 1, 2), (2, 3)), ((0, 1, 2),), ((2, 3),))
        self.assertEqual(told, (len(found), found[0].marks, found[1].marks, knots_over(chart, 1),
                                first_knots(chart), last_knots(chart)))

    def test_places(self):
        chart = Chart.told(3, "0")
        told = ([(), (0,), (0, 1), (0, 1, 2), (1, 2), (2,)], (0, 0, 1))
        self.assertEqual(told, (list(all_places(chart)), wrong_count(chart, (2, 0))))

    def test_sides(self):
        chart = Chart.told(4, "0+++")
        found = (upper_sides(chart, (2, 1)), lower_sides(chart, (2, 1)), left_corner(chart, (1, 2)),
                 right_corner(chart, (1, 2)), across(chart, (1, 2), 3))
        self.assertEqual(((1,), (0, 3), (1, 0), (1, 3), (1, 2, 3)), found)


if __name__ == "__main__":
    unittest.main()
