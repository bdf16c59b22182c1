"""The module lots: point [70]."""

import unittest
from itertools import combinations

from bentlines.charts import Chart
from bentlines.doors import door_table
from bentlines.errors import BadKind, BadLine, BadNumber
from bentlines.lots import lot_doors, right_lot_doors, told_doors
from bentlines.places import all_places, wrong_count
from tests.helpers import (NO_INTEGERS, NO_LISTS, DueCase, every_lot, huge_simple_charts, large_simple_charts,
                           small_simple_charts, told_above)


def told_lot_doors(chart, lot, right):
    """The left or right doors of a lot by the words of [70]."""
    pairs = [(a, b) for a, b in combinations(range(chart.size), 2)
             if (a in lot) == right and (b in lot) == (not right)]
    return (len(pairs), sum(1 + len(told_above(chart, a, b)) for a, b in pairs))


class LotDoorsTest(DueCase):
    def test_every_small_chart(self):
        """[70] The pairs and the edges that their meetings go over."""
        for chart in small_simple_charts() + large_simple_charts()[:2]:
            for lot in every_lot(range(chart.size)):
                self.assertEqual(told_lot_doors(chart, lot, False), lot_doors(chart, lot[::-1]))
                self.assertEqual(told_lot_doors(chart, lot, True), right_lot_doors(chart, list(lot)))

    def test_told_by_names_and_wrong_threes(self):
        """[70] The number is told by the names, the edge sum by the names and the wrong threes."""
        for chart in small_simple_charts() + large_simple_charts()[::6] + huge_simple_charts()[:1]:
            for lot in every_lot(range(chart.size))[::1 if chart.size < 9 else 101]:
                plus, minus, _ = wrong_count(chart, lot)
                many, total = told_doors(chart.size, lot)
                self.assertEqual((many, total + minus - plus), lot_doors(chart, lot))
                # The mirrored lot has at the first lines what the lot has at the last ones.
                many, total = told_doors(chart.size, [chart.size - 1 - x for x in lot])
                self.assertEqual((many, total + minus - plus), right_lot_doors(chart, lot))

    def test_places(self):
        """The doors of a place, in all, are the sums of its doors at the edges."""
        for chart in large_simple_charts()[::3] + huge_simple_charts():
            for place in list(all_places(chart))[::8]:
                table = door_table(chart, place)
                left, right = [sum(doors[side] for doors in table) for side in (0, 1)]
                self.assertEqual((left, right), (lot_doors(chart, place)[0], right_lot_doors(chart, place)[0]))

    def test_few_lines(self):
        for lot in ((), [0]):
            self.assertEqual(((0, 0), (0, 0)), (lot_doors(Chart.fan(1), lot), right_lot_doors(Chart.fan(1), lot)))
        self.assertEqual(((1, 1), (0, 0)), (lot_doors(Chart.fan(2), [1]), right_lot_doors(Chart.fan(2), [1])))
        self.assertEqual(((0, 0), (1, 1)), (lot_doors(Chart.fan(2), [0]), right_lot_doors(Chart.fan(2), [0])))

    def test_refusals(self):
        for call in (lot_doors, right_lot_doors):
            self.asks_for_chart(call, None)
            self.asks_for_lot(call)
            self.asks_for_simplicity(call, [0, 2])


class ToldDoorsTest(DueCase):
    def test_every_lot(self):
        """[70] The sums of t_g and of g * t_g."""
        for size in (1, 2, 3, 4, 5, 6):
            for lot in every_lot(range(size)):
                doors = [min(len(lot), g) - len([x for x in lot if x < g]) for g in range(1, size)]
                told = (sum(doors), sum(g * t for g, t in zip(range(1, size), doors)))
                self.assertEqual(told, told_doors(size, lot[::-1]))
        self.assertEqual((0, 0), told_doors(1, [0]))
        self.assertEqual((64, 512), told_doors(16, list(range(8, 16))))

    def test_refusals(self):
        for value in (*NO_INTEGERS, 0, -1, 17):
            self.due(BadNumber, {"word": "size"}, told_doors, value, None)
        for value in NO_LISTS:
            self.due(BadKind, {"word": "lot"}, told_doors, 3, value)
        for value in (*NO_INTEGERS, 3, -1):
            self.due(BadLine, {"line": value}, told_doors, 3, (0, value, 0))
        self.due(BadLine, {"line": 0}, told_doors, 3, [0, 0])


if __name__ == "__main__":
    unittest.main()
