"""The module going: points [186] and [187]."""

import random
import unittest
from fractions import Fraction

from bentlines.charts import Chart
from bentlines.errors import BadKind, BadNumber, Degenerate
from bentlines.going import Going
from bentlines.ratios import Ratio
from bentlines.straights import Points, Straight
from bentlines.turnings import behind_way, bounds, differ, is_way
from tests.helpers import NO_LISTS, DueCase, lots
from tests.test_ratios import NO_RATIOS, fraction
from tests.test_straights import (NO_STRAIGHTS, THREE, given_ratio, random_lines, straight_of, told_chart,
                                  told_number)


def told_goings():
    """Slopes, heights and other heights: plain goings, several threes at one time, charts with 0 at the ends."""
    source = random.Random(186)
    found = [([0], [1], [2]), ([0, 1], [1, 0], [0, 1]), ([0, 1, 2], [0, 1, 0], [0, -1, 0]),
             ([0, 1, 2], [0, 1, 0], [0, 0, 0]), ([0, 1, 2], [0, 0, 0], [0, 1, 0]), ([0, 1, 2], [0, 0, 0], [1, 1, 1]),
             ([0, 1, 2, 3], [0, 1, 1, 0], [0, -1, -1, 0]), ([0, 1, 2, 3], [0, 1, 5, 0], [0, -1, -5, 0]),
             (list(range(6)), [x * x for x in range(6)], [-x * x for x in range(6)]),
             (list(range(5)), [3] * 5, [0, 7, 1, 5, 2])]
    for size in (4, 5, 6, 8):
        for top in (3, 1000):
            slopes, heights = random_lines(size, source, 20, 3)
            found.append((slopes, [source.randint(-top, top) for _ in range(size)],
                          [source.randint(-top, top) for _ in range(size)]))
            found.append((slopes, heights, random_lines(size, source, top, 7)[1]))
    slopes, heights = random_lines(7, source, 10 ** 60 - 1, 10 ** 60 - 1)
    return found + [(slopes, heights, random_lines(7, source, 10 ** 60 - 1, 10 ** 60 - 1)[1])]


def going_of(slopes, heights, others):
    return Going(straight_of(slopes, heights), [given_ratio(Fraction(value)) for value in others])


def heights_at(heights, others, time):
    return [h + time * (k - h) for h, k in zip(heights, others)]


def told_times(slopes, heights, others):
    """The times with their threes, by the words of [186]."""
    found = {}
    for three in lots(len(slopes), 3):
        first = told_number(slopes, heights, three)
        last = told_number(slopes, others, three)
        if first * last < 0:
            found.setdefault(Fraction(first) / (first - last), []).append(three)
    return [(time, tuple(found[time])) for time in sorted(found)]


class GoingTest(DueCase):
    def test_attributes(self):
        for slopes, heights, others in told_goings():
            straight = straight_of(slopes, heights)
            going = Going(straight, tuple(given_ratio(Fraction(value)) for value in others))
            self.assertIs(straight, going.straight)
            self.assertIsInstance(going.heights, tuple)
            self.assertEqual([Ratio] * len(others), [height.__class__ for height in going.heights])
            self.assertEqual(list(others), [fraction(height) for height in going.heights])

    def test_times(self):
        """[186] The times of the threes, each once, neither 0 nor 1."""
        for given in told_goings():
            found = going_of(*given).times()
            self.assertIsInstance(found, tuple)
            self.assertEqual(told_times(*given), [(fraction(time), threes) for time, threes in found])
            for time, threes in found:
                self.assertIs(Ratio, time.__class__)
                self.assertTrue(0 < fraction(time) < 1)
                self.assertIsInstance(threes, tuple)

    def test_charts(self):
        """[186] The chart at each time; the same strictly between two neighbours of the row 0, times, 1."""
        for slopes, heights, others in told_goings():
            going = going_of(slopes, heights, others)
            times = [time for time, _ in told_times(slopes, heights, others)]
            row = [Fraction(0), *times, Fraction(1)]
            thirds = [low + (high - low) * part for low, high in zip(row, row[1:])
                      for part in (Fraction(1, 3), Fraction(1, 2), Fraction(9, 10))]
            for time in row + thirds:
                told = told_chart(slopes, heights_at(heights, others, time))
                self.assertEqual(told, going.chart_at(given_ratio(time)))
                self.assertTrue(told.sound)
            for at in range(0, len(thirds), 3):
                between = [going.chart_at(given_ratio(time)) for time in thirds[at:at + 3]]
                self.assertEqual([between[0]] * 3, between)

    def test_signs_at_times(self):
        """[186] At a time, just its threes and those with the sign 0 at both ends have the sign 0."""
        for slopes, heights, others in told_goings():
            going = going_of(slopes, heights, others)
            ends = (told_chart(slopes, heights), told_chart(slopes, others))
            for time, threes in going.times():
                chart = going.chart_at(time)
                for three in lots(len(slopes), 3):
                    told = three in threes or ends[0].sign(three) == 0 == ends[1].sign(three)
                    self.assertIs(told, chart.sign(three) == 0)

    def test_list_of_charts(self):
        """[186] The chart at 0, those between the times, and the one at 1."""
        for slopes, heights, others in told_goings():
            times = [time for time, _ in told_times(slopes, heights, others)]
            middles = [(low + high) / 2 for low, high in zip(times, times[1:])]
            told = [told_chart(slopes, heights_at(heights, others, time))
                    for time in [0, *middles, *[1] * bool(times)]]
            found = going_of(slopes, heights, others).charts()
            self.assertIsInstance(found, list)
            self.assertEqual(told, found)
            self.assertEqual(len(times) + 1, len(found))

    def test_plain_goings(self):
        """[187] The threes of a plain going are a shortest way from the chart at 0 to the chart at 1."""
        plain = 0
        for slopes, heights, others in told_goings():
            going = going_of(slopes, heights, others)
            first, last = told_chart(slopes, heights), told_chart(slopes, others)
            told = told_times(slopes, heights, others)
            self.assertIs(first.simple and last.simple and all(len(threes) == 1 for _, threes in told), going.plain)
            if not going.plain:
                self.due(Degenerate, {"word": "times"}, going.turnings)
                continue
            way = going.turnings()
            self.assertIsInstance(way, list)
            self.assertEqual([threes[0] for _, threes in told], way)
            self.assertEqual(len(set(way)), len(way))
            self.assertEqual(differ(first, last), len(way))
            if len(slopes) > 2:
                self.assertTrue(is_way(first, way))
                self.assertEqual((last, len(way)), (behind_way(first, way), bounds(first, last)[0]))
            plain += len(way) > 3
        self.assertGreaterEqual(plain, 3)

    def test_what_is_not_plain(self):
        """[187] Charts with a 0 at an end, or two threes at one time."""
        for heights, others in (((0, 1, 0), (0, 0, 0)), ((0, 0, 0), (0, 1, 0)), ((0, 0, 0), (0, 0, 0))):
            going = Going(Straight((0, 1, 2), heights), others)
            self.assertEqual((False, ()), (going.plain, going.times()))
            self.due(Degenerate, {"word": "times"}, going.turnings)
        going = Going(Straight((0, 1, 2, 3), (0, 1, 1, 0)), (0, -1, -1, 0))
        self.assertEqual((False, 1), (going.plain, len(going.times())))
        self.assertIs(True, Going(Straight([1], [1]), [2]).plain)

    def test_points(self):
        points = Points([(0, 0), (1, 1), (2, 0)])
        going = Going(points, (0, 1, 0))
        self.assertIs(points, going.straight)
        self.assertEqual([(0, 1, 2)], going.turnings())

    def test_refusals(self):
        for value in NO_STRAIGHTS:
            self.due(BadKind, {"word": "straight"}, Going, value, None)
        for value in (*NO_LISTS, [], (0, 1), [0, 1, 2, 3], (0, 1, None), [True, 0, 0], "012", (0, 0.5, 0)):
            self.due(BadKind, {"word": "heights"}, Going, THREE, value)
        going = Going(THREE, [0, -1, 0])
        for value in NO_RATIOS:
            self.due(BadKind, {"word": "time"}, going.chart_at, value)
        for value in (-1, 2, Ratio(-1, 10 ** 50), Ratio(10 ** 50 + 1, 10 ** 50)):
            self.due(BadNumber, {"word": "time"}, going.chart_at, value)
        self.assertEqual(["+", "-", "0"], [going.chart_at(time).marks for time in (0, Ratio(7, 7), Ratio(1, 2))])

    def test_new_lists(self):
        heights = [0, -1, 0]
        going = Going(THREE, heights)
        heights[1] = 5
        going.charts().clear()
        going.turnings().clear()
        self.assertEqual(([Chart.fan(3), -Chart.fan(3)], [(0, 1, 2)]), (going.charts(), going.turnings()))


if __name__ == "__main__":
    unittest.main()
