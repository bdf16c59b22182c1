"""The module ties: points [38] to [40]."""

import unittest
from itertools import combinations

from bentlines.charts import Chart
from bentlines.errors import BadKind, BadLine, Parted, TooMany
from bentlines.links import knots_of
from bentlines.loose import loosened
from bentlines.ties import can_tie, parting, tie_lots, tied
from tests.helpers import (NO_INTEGERS, NO_LISTS, UNSOUND, WITH_KNOT, DueCase, drawn_charts, huge_charts,
                           large_charts, simple_charts, small_charts, told_knots)


def large_lots(size):
    """All lots of three lines or more, ascending."""
    return sorted(lot for many in range(3, size + 1) for lot in combinations(range(size), many))


def told_side(chart, pair, line):
    """The side by the words of [31]."""
    i, j, k = sorted([*pair, line])
    sign = chart.sign((i, j, k))
    return sign if line == j else -sign


def told_parting(chart, lot):
    """The parting by the words of [38]."""
    for line in range(chart.size):
        sides = {pair: told_side(chart, pair, line) for pair in combinations(lot, 2) if line not in lot}
        if len(set(sides.values())) > 1:
            first = min(pair for pair in sides if sides[pair] != 0)
            return (line, first, min(pair for pair in sides if sides[pair] != sides[first]))
    return None


def all_zero(chart, lot):
    """The chart in which all threes of the lot have the sign 0, whether it is sound or not."""
    inner = list(combinations(lot, 3))
    return Chart(chart.size, [0 if three in inner else chart.sign(three)
                              for three in combinations(range(chart.size), 3)])


def charts_to_tie():
    return small_charts() + large_charts()


class PartingTest(DueCase):
    def test_every_lot(self):
        """[38] The least line that parts the lot, and the two least pairs that show it."""
        for chart in charts_to_tie():
            for lot in large_lots(chart.size)[::1 if chart.size < 6 else 5]:
                told = told_parting(chart, lot)
                self.assertEqual(told, parting(chart, lot[::-1]))
                self.assertIs(told is None, can_tie(chart, list(lot)))
                if told is None:
                    self.assertEqual(all_zero(chart, lot), tied(chart, lot[::-1]))
                else:
                    attributes = {"line": told[0], "first": told[1], "second": told[2]}
                    self.due(Parted, attributes, tied, chart, list(lot[::-1]))

    def test_known_partings(self):
        self.assertEqual((2, (0, 1), (0, 3)), parting(Chart.fan(4), [3, 0, 1]))
        self.assertEqual((1, (0, 2), (2, 3)), parting(Chart.fan(4), (0, 2, 3)))
        # Line 2 goes through the least pair, so that this is the second one.
        self.assertEqual((2, (0, 3), (0, 1)), parting(WITH_KNOT, (0, 1, 3)))

    def test_second_pair_ahead_of_the_first(self):
        """[38] The first pair is the least with a side other than 0; the other one may be less."""
        found = [parting(chart, lot) for chart in drawn_charts(5) for lot in large_lots(5)]
        self.assertTrue([told for told in found if told and told[2] < told[1]])
        self.assertTrue([told for told in found if told and told[2] > told[1]])

    def test_all_lines_and_one_knot(self):
        """[38] All lines together can be tied, and so can three or more lines of one knot."""
        for chart in charts_to_tie() + huge_charts():
            lots = [tuple(range(chart.size))] if chart.size >= 3 else []
            for knot in knots_of(chart):
                lots += [knot, knot[1:], knot[::2]]
            for lot in lots:
                if len(lot) >= 3:
                    self.assertIsNone(parting(chart, lot))
                    self.assertEqual(all_zero(chart, lot), tied(chart, lot))

    def test_refusals(self):
        """A lot of fewer than three lines is no lot here, whatever its entries are; all of it ahead of Unsound."""
        for call in (parting, can_tie, tied):
            self.asks_for_chart(call, None)
            for value in (*NO_LISTS, [], (), [0], (0, 1), [9, 9], [None, None]):
                self.due(BadKind, {"word": "lot"}, call, UNSOUND, value)
            for value in (*NO_INTEGERS, 4, -1):
                self.due(BadLine, {"line": value}, call, UNSOUND, [2, value, 9, 2])
            self.due(BadLine, {"line": 1}, call, UNSOUND, (0, 1, 2, 1, 2))
            self.due(BadLine, {"line": 2}, call, Chart.fan(2), (0, 1, 2))
            self.asks_for_soundness(call, (0, 1, 2))
            self.asks_for_soundness(call, [3, 2, 1, 0])

    def test_arguments_stay(self):
        lot = [2, 1, 0]
        tied(Chart.fan(4), lot)
        self.assertEqual([2, 1, 0], lot)


class TiedTest(DueCase):
    def test_sound_exactly_if_it_can_be_tied(self):
        """[39] And if a line parts the lot, it is in a four with three lines of the lot that is not good."""
        for chart in small_charts():
            for lot in large_lots(chart.size):
                made = all_zero(chart, lot)
                self.assertIs(made.sound, can_tie(chart, lot))
                if not made.sound:
                    line = parting(chart, lot)[0]
                    fours = [three + (line,) for three in combinations(lot, 3)]
                    self.assertFalse(all(made.part(four).sound for four in fours))

    def test_sides_stay(self):
        """[39] Each line outside the lot has at each pair of the lot the side that it had."""
        for chart in small_charts():
            for lot in tie_lots(chart):
                made = tied(chart, lot)
                for line in set(range(chart.size)) - set(lot):
                    for pair in combinations(lot, 2):
                        self.assertEqual(told_side(chart, pair, line), told_side(made, pair, line))

    def test_loosened_again(self):
        """[40] A lot whose part is simple is a knot of the tied chart; loosening it gives the chart back."""
        for chart in small_charts():
            for lot in tie_lots(chart):
                part = chart.part(lot)
                if part.simple:
                    self.assertIn(lot, told_knots(tied(chart, lot)))
                    self.assertEqual(chart, loosened(tied(chart, lot), lot, part.signs))

    def test_charts_that_differ_in_the_lot_alone(self):
        """[40] The lot can be tied in both or in neither, and the tied charts are equal."""
        for size in (4, 5):
            for lot in large_lots(size):
                families = {}
                for chart in drawn_charts(size):
                    families.setdefault(all_zero(chart, lot).marks, []).append(chart)
                for family in families.values():
                    self.assertEqual(1, len({can_tie(chart, lot) for chart in family}))
                    if can_tie(family[0], lot):
                        self.assertEqual(1, len({tied(chart, lot).marks for chart in family}))

    def test_threes_of_simple_charts(self):
        """[40] A three can be tied exactly if the chart with the sign of this three negated is sound."""
        for size in (3, 4, 5):
            for chart in simple_charts(size):
                for at, three in enumerate(combinations(range(size), 3)):
                    signs = list(chart)
                    signs[at] = -signs[at]
                    self.assertIs(Chart(size, signs).sound, can_tie(chart, three))


class TieLotsTest(DueCase):
    def test_every_lot(self):
        for chart in charts_to_tie():
            told = [lot for lot in large_lots(chart.size) if told_parting(chart, lot) is None]
            self.assertEqual(tuple(told), tie_lots(chart))

    def test_small_charts(self):
        self.assertEqual((), tie_lots(Chart.fan(1)))
        self.assertEqual((), tie_lots(Chart.fan(2)))
        self.assertEqual(((0, 1, 2),), tie_lots(Chart.fan(3)))
        self.assertEqual(((0, 1, 2), (0, 1, 2, 3), (1, 2, 3)), tie_lots(Chart.fan(4)))

    def test_ten_lines(self):
        """In the fan just the lots of neighbours can be tied; more than 10 lines are too many."""
        told = sorted(tuple(range(low, high)) for low in range(10) for high in range(low + 3, 11))
        self.assertEqual(tuple(told), tie_lots(Chart.fan(10)))
        self.assertEqual(1024 - 1 - 10 - 45, len(tie_lots(Chart(10, [0] * 120))))
        for size in (11, 16):
            self.due(TooMany, {"word": "lines"}, tie_lots, Chart.fan(size))

    def test_refusals(self):
        self.asks_for_chart(tie_lots)
        self.asks_for_soundness(tie_lots)
        # The bound on the lines is asked ahead of Unsound.
        self.due(TooMany, {"word": "lines"}, tie_lots, Chart.fan(7) + UNSOUND)


if __name__ == "__main__":
    unittest.main()
