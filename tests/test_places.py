"""The module places: points [46] to [48] and [55] to [57]."""

import unittest
from itertools import combinations, islice

from bentlines.charts import Chart
from bentlines.crossings import knots_over
from bentlines.errors import BadNumber, NotPlace, Unsound
from bentlines.links import knots_of
from bentlines.loose import loosenings
from bentlines.places import (all_places, check_place, endless, is_endless, is_place, level_places, wrong_count,
                              wrong_three)
from tests.helpers import (NO_CHARTS, NO_INTEGERS, UNSOUND, WITH_KNOT, DueCase, every_chart, every_drawing, every_lot,
                           huge_charts, large_charts, small_charts, some_charts, some_drawings)

# Where the three lines of a wrong three are, as whether the lot has each of them.
WRONG = {1: [(True, False, True)], -1: [(False, True, False)], 0: [(True, False, True), (False, True, False)]}


def every_lot_of(chart):
    return every_lot(range(chart.size))


def told_wrong(chart, lot):
    """The threes that are wrong for the lot, by the words of [46]."""
    return [three for three in combinations(range(chart.size), 3)
            if tuple(line in lot for line in three) in WRONG[chart.sign(three)]]


def told_places(chart):
    """All places by the words of [46], ascending."""
    return sorted(lot for lot in every_lot_of(chart) if not told_wrong(chart, lot))


def prefixes(rows):
    """The lots of the j highest lines of rows, for all j."""
    return {tuple(sorted(row[:j])) for row in rows for j in range(len(row) + 1)}


class WrongTest(DueCase):
    def test_every_chart_of_four_lines(self):
        """[46] The least wrong three, and how many there are of each sign; the chart need not be sound."""
        for chart in every_chart(4) + every_chart(3) + some_charts(5, 8) + some_charts(6, 3):
            for lot in every_lot_of(chart):
                wrong = told_wrong(chart, lot)
                self.assertEqual(wrong[0] if wrong else None, wrong_three(chart, lot[::-1]))
                signs = [chart.sign(three) for three in wrong]
                self.assertEqual(tuple(signs.count(sign) for sign in (1, -1, 0)), wrong_count(chart, list(lot)))

    def test_few_lines(self):
        for chart in (Chart.fan(1), Chart.fan(2)):
            for lot in every_lot_of(chart):
                self.assertIsNone(wrong_three(chart, lot))
                self.assertEqual((0, 0, 0), wrong_count(chart, lot))
                self.assertIs(True, is_place(chart, lot))

    def test_known_lots(self):
        self.assertEqual((0, 1, 2), wrong_three(UNSOUND, [2, 0]))
        self.assertEqual((0, 0, 2), wrong_count(Chart(4, [0] * 4), (3, 1, 0)))
        self.assertEqual((1, 0, 0), wrong_count(Chart.told(4, "+--+"), (0, 2)))
        self.assertEqual((0, 1, 0), wrong_count(Chart.told(4, "+--+"), [1]))

    def test_refusals(self):
        for call in (wrong_three, wrong_count, is_place):
            self.asks_for_chart(call, None)
            self.asks_for_lot(call)
        for lot in ([], (0, 2), [1]):
            self.asks_for_soundness(is_place, lot)
            wrong_three(UNSOUND, lot)
            wrong_count(UNSOUND, lot)


class PlacesTest(DueCase):
    def test_every_small_chart(self):
        """[46] A lot is a place if no three is wrong for it."""
        for chart in small_charts() + large_charts():
            told = told_places(chart)
            self.assertEqual(told, list(all_places(chart)))
            for lot in every_lot_of(chart):
                self.assertIs(lot in told, is_place(chart, lot[::-1]))
            for many in range(chart.size + 1):
                self.assertEqual(tuple(lot for lot in told if len(lot) == many), level_places(chart, many))

    def test_rows_of_drawings(self):
        """[47] The places are the lots of the highest lines of the rows of every one of the drawings."""
        drawings = [drawing for size in (1, 2, 3, 4, 5) for drawing in every_drawing(size)]
        for drawing in drawings + some_drawings(7, 5) + some_drawings(16, 2):
            self.assertEqual(sorted(prefixes(drawing.rows())), list(all_places(drawing.chart())))

    def test_numbers(self):
        """[48] 1 + n + S places, and one more place of j lines than knots go over edge j."""
        for chart in small_charts() + large_charts() + huge_charts():
            n = chart.size
            s = sum(len(knot) - 1 for knot in knots_of(chart))
            places = list(all_places(chart))
            self.assertEqual(1 + n + s, len(places))
            self.assertEqual(s - (n - 1), len([place for place in places if not is_endless(n, place)]))
            self.assertEqual((((),), (tuple(range(n)),)), (level_places(chart, 0), level_places(chart, n)))
            for many in range(1, n):
                self.assertEqual(1 + len(knots_over(chart, many)), len(level_places(chart, many)))

    def test_one_line_more(self):
        """[55] Without one line z: places with z, without it, or both; both for 1 + r lots."""
        for chart in small_charts():
            places = told_places(chart)
            for z in range(chart.size):
                others = [line for line in range(chart.size) if line != z]
                both = 0
                for lot in every_lot(others):
                    fits = not [three for three in told_wrong(chart, lot) if z not in three]
                    ways = (lot in places) + (tuple(sorted([*lot, z])) in places)
                    self.assertIs(fits, ways > 0)
                    both += ways == 2
                self.assertEqual(1 + sum(z in knot for knot in knots_of(chart)), both)

    def test_made_charts(self):
        """[56] Places of the contrary, the mirrored and the rolled chart."""
        for chart in small_charts() + large_charts() + huge_charts():
            n = chart.size
            places = list(all_places(chart))
            contrary = [tuple(x for x in range(n) if x not in place) for place in places]
            self.assertEqual(sorted(contrary), list(all_places(-chart)))
            mirrored = [tuple(sorted(n - 1 - x for x in place)) for place in places]
            self.assertEqual(sorted(mirrored), list(all_places(~chart)))
            rolled = [(() if n - 1 in place else (0,)) + tuple(x + 1 for x in place if x < n - 1) for place in places]
            self.assertEqual(sorted(rolled), list(all_places(chart >> 1)))

    def test_loosened_knots(self):
        """[57] Places stay; a new one has a wrong three before, always of sign 0 and in one loosened knot."""
        for chart in small_charts():
            places = told_places(chart)
            for other in loosenings(chart):
                found = told_places(other)
                self.assertLessEqual(set(places), set(found))
                for lot in set(found) - set(places):
                    wrong = told_wrong(chart, lot)
                    self.assertTrue(wrong)
                    for three in wrong:
                        self.assertEqual(1, sum(set(three) <= set(knot) for knot in knots_of(chart)))

    def test_errors_when_the_iteration_begins(self):
        for value in (*NO_CHARTS, UNSOUND):
            all_places(value)
        self.asks_for_chart(lambda chart: next(all_places(chart)))
        self.asks_for_soundness(lambda chart: next(all_places(chart)))
        self.assertEqual([(), (0,), (0, 1)], list(islice(all_places(Chart.fan(9)), 3)))

    def test_level_refusals(self):
        self.asks_for_chart(level_places, None)
        for value in (*NO_INTEGERS, -1, 5, 10 ** 299):
            self.due(BadNumber, {"word": "many"}, level_places, UNSOUND, value)
        self.asks_for_soundness(level_places, 0)
        self.asks_for_soundness(level_places, 4)

    def test_what_is_no_place(self):
        """NotPlace has the least wrong three."""
        for chart in small_charts():
            for lot in every_lot_of(chart):
                wrong = told_wrong(chart, lot)
                if wrong:
                    self.due(NotPlace, {"three": wrong[0]}, check_place, chart, lot)
                else:
                    self.assertEqual(lot, check_place(chart, lot))


class EndlessTest(DueCase):
    def test_endless_lots(self):
        """[48] The lots 0 .. a-1 for 0 <= a <= n and a .. n-1 for 0 < a < n: 2n of them."""
        for n in range(1, 17):
            told = {tuple(range(a)) for a in range(n + 1)} | {tuple(range(a, n)) for a in range(1, n)}
            self.assertEqual(tuple(sorted(told)), endless(n))
            self.assertEqual(2 * n, len(endless(n)))
        for n in range(1, 7):
            for lot in every_lot(range(n)):
                self.assertIs(lot in endless(n), is_endless(n, list(lot[::-1])))

    def test_they_are_places(self):
        """[48] They are places of every sound chart of n lines."""
        for chart in small_charts() + huge_charts():
            self.assertLessEqual(set(endless(chart.size)), set(all_places(chart)))

    def test_one_line(self):
        self.assertEqual(((), (0,)), endless(1))
        self.assertEqual(((), (0,), (0, 1), (1,)), endless(2))

    def test_refusals(self):
        for value in (*NO_INTEGERS, 0, 17, -1):
            self.due(BadNumber, {"word": "size"}, endless, value)
            self.due(BadNumber, {"word": "size"}, is_endless, value, None)
        self.asks_for_lot(lambda chart, lot: is_endless(chart.size, lot))
        self.assertIs(False, is_endless(3, [0, 2]))
        with self.assertRaises(Unsound):
            is_place(UNSOUND, (0, 2))
        self.assertIs(False, is_place(WITH_KNOT, (0, 2)))


if __name__ == "__main__":
    unittest.main()
