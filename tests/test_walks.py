"""The module walks: points [51] and [52]."""

import random
import unittest
from itertools import product

from bentlines.charts import Chart
from bentlines.errors import BadKind, BadLine, NotPlace
from bentlines.places import all_places
from bentlines.sides import sides
from bentlines.walks import distance, is_walk, step_toward, walk
from tests.helpers import (NO_INTEGERS, NO_LISTS, UNSOUND, WITH_KNOT, DueCase, every_lot, huge_charts, large_charts,
                           small_charts)


def told_end(places, place, lines):
    """Where the lines lead to from the place, or None if they are no walk."""
    for line in lines:
        place = tuple(sorted(set(place) ^ {line}))
        if place not in places:
            return None
    return place


class DistanceTest(DueCase):
    def test_every_pair_of_lots(self):
        """[51] The number of unlike lines, of any lots of the lines 0 .. 15."""
        lots = every_lot((0, 3, 7, 15))
        for lot in lots:
            for other in lots:
                self.assertEqual(len(set(lot) ^ set(other)), distance(lot[::-1], list(other)))
        self.assertEqual(16, distance(list(range(16)), ()))

    def test_refusals(self):
        for value in NO_LISTS:
            self.due(BadKind, {"word": "lot"}, distance, value, None)
            self.due(BadKind, {"word": "lot"}, distance, [0], value)
        for value in (*NO_INTEGERS, 16, -1):
            self.due(BadLine, {"line": value}, distance, [3, value, 99], None)
            self.due(BadLine, {"line": value}, distance, [3], (15, value, 99))
        self.due(BadLine, {"line": 5}, distance, [5, 1, 5, 1], [7, 7])
        self.due(BadLine, {"line": 7}, distance, [5, 1], [7, 7])


class WalkTest(DueCase):
    def test_every_pair_of_places(self):
        """[52] A shortest walk has each unlike line once and no other; no walk is shorter."""
        charts = [chart for chart in small_charts() if chart.size < 5] + small_charts()[-200::40]
        for chart in charts + [Chart.fan(6), WITH_KNOT + Chart.fan(2)]:
            places = list(all_places(chart))
            for place in places:
                for other in places:
                    self.check_walk(chart, places, place, other)

    def check_walk(self, chart, places, place, other):
        found = walk(chart, place[::-1], list(other))
        self.assertIsInstance(found, list)
        self.assertEqual(sorted(set(place) ^ set(other)), sorted(found))
        self.assertEqual(distance(place, other), len(found))
        self.assertEqual(other, told_end(places, place, found))
        self.assertIs(True, is_walk(chart, place, found))
        near = [line for line in sides(chart, place) if line in set(place) ^ set(other)]
        self.assertEqual(near[0] if near else None, step_toward(chart, list(place), other[::-1]))
        self.assertIs(place == other, near == [])

    def test_many_lines(self):
        for chart in large_charts() + huge_charts():
            places = list(all_places(chart))
            for place, other in ((places[0], places[-1]), (places[-1], places[0]), (places[len(places) // 2],) * 2):
                found = walk(chart, place, other)
                self.assertEqual(sorted(set(place) ^ set(other)), sorted(found))
                self.assertEqual(other, told_end(places, place, found))

    def test_a_place_and_itself(self):
        """[52] A walk from a place to itself has no line; each list is a new one."""
        found = walk(WITH_KNOT, [1, 2], (2, 1))
        self.assertEqual([], found)
        found.append(0)
        self.assertEqual([], walk(WITH_KNOT, [1, 2], (2, 1)))
        self.assertIsNone(step_toward(WITH_KNOT, [1, 2], (2, 1)))
        self.assertEqual([0], walk(Chart.fan(1), (), (0,)))
        self.assertIsNone(step_toward(Chart.fan(1), (0,), [0]))

    def test_refusals(self):
        for call in (walk, step_toward):
            self.asks_for_chart(call, None, None)
            self.asks_for_lot(call, None)
            self.asks_for_lot(lambda chart, lot, asked=call: asked(chart, (0, 2), lot))
            self.asks_for_soundness(call, (0, 2), (0, 2))
            self.due(NotPlace, {"three": (0, 1, 2)}, call, WITH_KNOT, (2, 0), (0, 3))
            self.due(NotPlace, {"three": (0, 1, 3)}, call, WITH_KNOT, (0, 1), (3, 0))
            # Both lots are asked for their kind ahead of what is no place.
            self.due(BadLine, {"line": 4}, call, WITH_KNOT, (2, 0), (0, 4))


class IsWalkTest(DueCase):
    def test_every_short_list(self):
        """[52] Each line is a side of the place that is reached so far."""
        for chart in [chart for chart in small_charts() if chart.size in (1, 2, 3)] + [WITH_KNOT, Chart.fan(4)]:
            places = list(all_places(chart))
            for place in places:
                for many in range(4):
                    for lines in product(range(chart.size), repeat=many):
                        told = told_end(places, place, lines) is not None
                        self.assertIs(told, is_walk(chart, place[::-1], lines))
                        self.assertIs(told, is_walk(chart, list(place), list(lines)))

    def test_long_lists(self):
        """A line may occur more than once."""
        source = random.Random(3)
        chart = Chart.fan(6)
        places = list(all_places(chart))
        for _ in range(40):
            place = source.choice(places)
            lines = []
            for _ in range(30):
                lines.append(source.choice(sides(chart, told_end(places, place, lines))))
            self.assertIs(True, is_walk(chart, place, lines))
            lines[source.randrange(30)] = source.randrange(6)
            self.assertIs(told_end(places, place, lines) is not None, is_walk(chart, place, lines))
        self.assertIs(True, is_walk(WITH_KNOT, (), [0, 0, 0, 0]))

    def test_refusals(self):
        self.asks_for_chart(is_walk, None, None)
        self.asks_for_lot(is_walk, None)
        for value in NO_LISTS:
            self.due(BadKind, {"word": "lines"}, is_walk, UNSOUND, (0, 2), value)
        for value in (*NO_INTEGERS, 4, -1):
            self.due(BadLine, {"line": value}, is_walk, UNSOUND, (0, 2), [0, 0, value, 99])
        self.asks_for_soundness(is_walk, (0, 2), [0, 0])
        self.due(NotPlace, {"three": (0, 1, 2)}, is_walk, WITH_KNOT, (0, 2), [])

    def test_arguments_stay(self):
        place, other, lines = [2, 1], [3, 2, 1], [3, 3]
        walk(WITH_KNOT, place, other)
        is_walk(WITH_KNOT, place, lines)
        self.assertEqual(([2, 1], [3, 2, 1], [3, 3]), (place, other, lines))


if __name__ == "__main__":
    unittest.main()
