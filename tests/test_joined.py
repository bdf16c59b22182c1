"""The module joined: points [171] to [173], so far as they speak of joined places."""

import unittest

from bentlines.charts import Chart
from bentlines.errors import BadKind, BadLine, BadNumber, Together
from bentlines.joined import joined_places, joined_sides, joined_sum, opposite
from bentlines.links import knots_of
from bentlines.places import all_places, endless
from bentlines.scattered import knot_sizes, plain_knots
from bentlines.sides import sides
from tests.helpers import NO_INTEGERS, NO_LISTS, WITH_KNOT, DueCase, built_charts, huge_charts
from tests.test_scattered import scattered_charts

TOGETHER = (Chart.fan(1), Chart.fan(2), Chart.told(3, "0"), Chart(16, [0] * 560))


def told_joined(chart):
    """The joined places, by the words of [171]."""
    ends = endless(chart.size)
    found = [(place,) for place in all_places(chart) if place not in ends]
    for place in ends:
        other = tuple(x for x in range(chart.size) if x not in place)
        if place < other:
            found.append((place, other))
    return sorted(found)


def told_sides(chart, joined):
    many = sum(len(sides(chart, place)) for place in joined)
    return many if len(joined) == 1 else many - 2


class OppositeTest(DueCase):
    def test_every_size(self):
        """[171] The lot of all other lines, an endless place, too."""
        for size in range(1, 17):
            for place in endless(size):
                told = tuple(x for x in range(size) if x not in place)
                self.assertEqual(told, opposite(size, place[::-1]))
                self.assertEqual(place, opposite(size, list(told)))
        self.assertEqual([(0,), ()], [opposite(1, place) for place in ((), [0])])

    def test_refusals(self):
        for value in (*NO_INTEGERS, 0, -1, 17):
            self.due(BadNumber, {"word": "size"}, opposite, value, None)
        for value in NO_LISTS:
            self.due(BadKind, {"word": "lot"}, opposite, 4, value)
        for value in (*NO_INTEGERS, 4, -1):
            self.due(BadLine, {"line": value}, opposite, 4, [1, value, 9])
        self.due(BadLine, {"line": 1}, opposite, 4, [1, 3, 1])
        for lot in ((1,), [2, 1], (0, 3), [0, 2]):
            self.due(BadKind, {"word": "place"}, opposite, 4, lot)


class JoinedTest(DueCase):
    def test_every_small_chart(self):
        """[171] The joined places and their sides, how many there are, and at least three sides for each."""
        for chart in scattered_charts() + huge_charts()[1:2] + built_charts()[1::4]:
            told, knots = told_joined(chart), knots_of(chart)
            found = joined_places(chart)
            self.assertIsInstance(found, list)
            self.assertEqual(told, found)
            self.assertEqual(1 + sum(len(knot) - 1 for knot in knots), len(found))
            many = [told_sides(chart, joined) for joined in told]
            for at in range(0, len(told), 1 if chart.size < 9 else 17):
                self.assertEqual(many[at], joined_sides(chart, told[at]))
            self.assertEqual(2 * sum(map(len, knots)), sum(many))
            self.assertGreaterEqual(min(many), 3)

    def test_sums(self):
        """[172] As many plain knots as the sum tells; how many joined places have just three sides."""
        for chart in scattered_charts() + huge_charts()[:1] + built_charts()[::3]:
            sizes = knot_sizes(chart)
            many = [told_sides(chart, joined) for joined in told_joined(chart)]
            told = 3 + sum(m - 3 for m in sizes if m >= 4) + sum(s - 3 for s in many)
            self.assertEqual((told, told), (joined_sum(chart), len(plain_knots(chart))))
            self.assertGreaterEqual(told, 3)
            self.assertIs(told == 3, max(sizes) <= 3 and max(many) == 3)
            least = 4 + 2 * sum(m - 2 for m in sizes) + sum(s - 4 for s in many if s >= 5)
            self.assertEqual(least, many.count(3))

    def test_charts_made_of_it(self):
        """[173] Contrary, mirrored and rolled: as many joined places with each number of sides."""
        for chart in scattered_charts()[::3]:
            told = sorted(joined_sides(chart, joined) for joined in joined_places(chart))
            for other in (-chart, ~chart, chart >> 1, chart << 2):
                self.assertEqual(told, sorted(joined_sides(other, joined) for joined in joined_places(other)))

    def test_three_lines(self):
        for marks in "+-":
            chart = Chart.told(3, marks)
            found = joined_places(chart)
            self.assertEqual([3] * 4, [joined_sides(chart, joined) for joined in found])
            self.assertEqual(3, joined_sum(chart))

    def test_refusals(self):
        for call in (joined_places, joined_sum):
            self.asks_for_chart(call)
            self.asks_for_soundness(call)
            for chart in TOGETHER:
                self.due(Together, {}, call, chart)
        self.asks_for_chart(joined_sides, None)
        self.asks_for_soundness(joined_sides, None)
        for chart in TOGETHER:
            self.due(Together, {}, joined_sides, chart, None)
        for value in (*NO_LISTS, (), [((), (0, 1, 2, 3))], [(0,), (1, 2, 3)], ((0,), [1, 2, 3]), ((1, 2, 3), (0,)),
                      ((0,),), ((3, 2),), [(2, 3)], (2, 3), ((1, 3),), ((1, 2), ()), Chart.fan(4)):
            self.due(BadKind, {"word": "joined"}, joined_sides, WITH_KNOT, value)
        self.assertEqual([3, 3], [joined_sides(WITH_KNOT, joined) for joined in (((0,), (1, 2, 3)), ((1, 2),))])

    def test_new_lists(self):
        found = joined_places(WITH_KNOT)
        found.clear()
        self.assertEqual(told_joined(WITH_KNOT), joined_places(WITH_KNOT))


if __name__ == "__main__":
    unittest.main()
