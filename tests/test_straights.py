"""The module straights: points [181] to [185]."""

import random
import unittest
from fractions import Fraction
from itertools import combinations, permutations

from bentlines.charts import Chart
from bentlines.crossings import above
from bentlines.drawings import Drawing
from bentlines.errors import BadKind, BadLine, BadNumber, OnLine, SameSlope, TooMany
from bentlines.lefts import left_knots, right_knots
from bentlines.links import knots_of
from bentlines.places import all_places, is_place
from bentlines.ratios import Ratio
from bentlines.straights import Points, Straight, drawing_by_x, moved, order_by_x, place_at, scaled, three_number
from tests.helpers import NO_INTEGERS, NO_LISTS, DueCase, lots
from tests.test_ratios import NO_RATIOS, fraction

THREE = Straight((0, 1, 2), (0, 1, 0))
NO_STRAIGHTS = (None, 3, "012", (0, 1), Chart.fan(3), Ratio(1), [THREE])
# What is no spot.
NO_SPOTS = (*NO_LISTS, [], (1,), [1, 2, 3], (None, 1), (1, "2"), [True, 1], (1, 0.5))


def given_ratio(value):
    """A value as it may be passed: a Ratio, or an integer where it is one."""
    return value.numerator if value.denominator == 1 else Ratio(value.numerator, value.denominator)


def straight_of(slopes, heights):
    return Straight([given_ratio(Fraction(value)) for value in slopes],
                    tuple(given_ratio(Fraction(value)) for value in heights))


def random_lines(size, source, top, bottom):
    """Fractions as slopes in rising order and as heights, the same in each run."""
    slopes = set()
    while len(slopes) < size:
        slopes.add(Fraction(source.randint(-top, top), source.randint(1, bottom)))
    return sorted(slopes), [Fraction(source.randint(-top, top), source.randint(1, bottom)) for _ in range(size)]


def told_lines():
    """Slopes and heights of many straights: with several knots at one x, many lines in one spot, and none of it."""
    source = random.Random(181)
    found = [([0], [5]), ([-1, 3], [0, 0]), ([0, 1, 2], [0, 1, 0]), ([0, 1, 2], [3, 3, 3]),
             (list(range(5)), [0] * 5), ([-2, -1, 1, 2], [1, 0, 0, 1]), ([-3, -1, 1, 3], [0, 1, 1, 0]),
             (list(range(8)), [x * x for x in range(8)]), ([1, 2, 4, 5, 9], [Fraction(1, 3)] * 3 + [0, 2])]
    for size in (3, 4, 5, 6, 7):
        for top in (2, 3, 9):
            for _ in range(2):
                found.append(random_lines(size, source, 9 if top == 2 else 3 * top, 2)[:1]
                             + ([Fraction(source.randint(-top, top)) for _ in range(size)],))
        found.append(random_lines(size, source, 10 ** 60 - 1, 10 ** 60 - 1))
    found.append(random_lines(16, source, 9, 3))
    return found


def told_number(slopes, heights, three):
    """The number of a three, by the words of [182]."""
    i, j, k = sorted(three)
    return ((heights[j] - heights[i]) * (slopes[k] - slopes[i])
            - (slopes[j] - slopes[i]) * (heights[k] - heights[i]))


def told_chart(slopes, heights):
    numbers = [told_number(slopes, heights, three) for three in lots(len(slopes), 3)]
    return Chart(len(slopes), [(number > 0) - (number < 0) for number in numbers])


def told_spot(slopes, heights, i, j):
    x = Fraction(heights[i] - heights[j]) / (slopes[j] - slopes[i])
    return (x, slopes[i] * x + heights[i])


def told_spots(slopes, heights):
    """For each spot where lines meet, all lines through it."""
    found = {}
    for i, j in combinations(range(len(slopes)), 2):
        spot = told_spot(slopes, heights, i, j)
        found[spot] = tuple(x for x in range(len(slopes)) if slopes[x] * spot[0] + heights[x] == spot[1])
    return found


class StraightCase(DueCase):
    def same(self, slopes, heights, straight):
        """It is a plain Straight with these slopes and heights, in lowest terms."""
        self.assertIs(Straight, straight.__class__)
        self.assertEqual(len(slopes), straight.size)
        for told, found in ((slopes, straight.slopes), (heights, straight.heights)):
            self.assertIsInstance(found, tuple)
            self.assertEqual([Ratio] * len(told), [ratio.__class__ for ratio in found])
            self.assertEqual(list(told), [fraction(ratio) for ratio in found])

    def asks_for_ratio(self, word, call):
        for value in NO_RATIOS:
            self.due(BadKind, {"word": word}, call, value)


class StraightTest(StraightCase):
    def test_attributes(self):
        for slopes, heights in told_lines():
            self.same(slopes, heights, straight_of(slopes, heights))
        slopes, heights = [0, Ratio(1, 2)], [3, 4]
        straight = Straight(slopes, heights)
        slopes.append(9)
        heights[0] = 5
        self.same([0, Fraction(1, 2)], [3, 4], straight)

    def test_charts_and_numbers(self):
        """[182] The numbers of the threes; the chart has their signs and is sound."""
        for slopes, heights in told_lines():
            straight = straight_of(slopes, heights)
            self.assertEqual(told_chart(slopes, heights), straight.chart())
            self.assertTrue(straight.chart().sound)
            for three in lots(len(slopes), 3)[::1 if len(slopes) < 8 else 9]:
                found = three_number(straight, three[::-1])
                self.assertIs(Ratio, found.__class__)
                self.assertEqual(told_number(slopes, heights, three), fraction(found))

    def test_meetings(self):
        """[182] A pair meets at the only spot on both lines; the knots are the spots with all lines through them."""
        for slopes, heights in told_lines():
            straight, spots = straight_of(slopes, heights), told_spots(slopes, heights)
            for pair in lots(len(slopes), 2):
                found = straight.meeting(list(pair[::-1]))
                self.assertIsInstance(found, tuple)
                self.assertEqual(told_spot(slopes, heights, *pair), tuple(map(fraction, found)))
                for line in pair:
                    self.assertEqual(found[1], straight.height_at(line, found[0]))
            self.assertEqual(sorted(spots.values()), list(knots_of(straight.chart())))
            for line in range(len(slopes)):
                for x in (Fraction(0), Fraction(-7, 3), Fraction(4)):
                    found = straight.height_at(line, given_ratio(x))
                    self.assertIs(Ratio, found.__class__)
                    self.assertEqual(slopes[line] * x + heights[line], fraction(found))

    def test_order_by_x(self):
        """[182] By ascending x, at equal x by descending y, the knots are those of a drawing with the chart."""
        several = 0
        for slopes, heights in told_lines():
            straight, spots = straight_of(slopes, heights), told_spots(slopes, heights)
            told = tuple(spots[spot] for spot in sorted(spots, key=lambda spot: (spot[0], -spot[1])))
            self.assertEqual(told, order_by_x(straight))
            drawing = drawing_by_x(straight)
            self.assertIsInstance(drawing, Drawing)
            self.assertEqual((told, straight.chart()), (drawing.knots(), drawing.chart()))
            several += len({spot[0] for spot in spots}) < len(spots)
        self.assertGreaterEqual(several, 5)
        self.assertEqual(((), ()), (order_by_x(Straight([7], [1])), drawing_by_x(Straight([7], [1])).turns))

    def test_refused_straights(self):
        for value in (*NO_LISTS, [], (), [None], (0, "1"), [0, True], [1, 2.0]):
            self.due(BadKind, {"word": "slopes"}, Straight, value, None)
        for value in (*NO_LISTS, [], (1,), [1, 2, 3], [None, 1], (0, "1"), [0, True]):
            self.due(BadKind, {"word": "heights"}, Straight, [1, 0], value)
        many = list(range(17))[::-1]
        self.due(BadKind, {"word": "heights"}, Straight, many, many[1:])
        self.due(TooMany, {"word": "lines"}, Straight, many, many)
        self.assertEqual(16, Straight(list(range(16)), [0] * 16).size)
        for slopes, at in (([1, 0], 1), ([0, 0, 1], 1), ([0, 2, Ratio(4, 2), 1], 2), ([0, 1, 2, 1], 3)):
            self.due(SameSlope, {"at": at}, Straight, slopes, [0] * len(slopes))

    def test_refused_calls(self):
        for value in (*NO_INTEGERS, -1, 3):
            self.due(BadLine, {"line": value}, THREE.height_at, value, None)
            self.due(BadLine, {"line": value}, THREE.meeting, (value, 9))
        self.asks_for_ratio("x", lambda value: THREE.height_at(2, value))
        for value in (*NO_LISTS, [], [0], (0, 1, 2)):
            self.due(BadKind, {"word": "pair"}, THREE.meeting, value)
        self.due(BadLine, {"line": 1}, THREE.meeting, [1, 1])
        for value in NO_STRAIGHTS:
            for call in (three_number, place_at, moved, scaled, order_by_x, drawing_by_x):
                more = {three_number: 1, place_at: 2, moved: 3, scaled: 2}.get(call, 0)
                self.due(BadKind, {"word": "straight"}, call, value, *[None] * more)
        for value in (*NO_LISTS, [], [0, 1], (0, 1, 2, 3)):
            self.due(BadKind, {"word": "three"}, three_number, THREE, value)
        for value in (*NO_INTEGERS, -1, 3):
            self.due(BadLine, {"line": value}, three_number, THREE, (0, value, 9))


class PointsTest(StraightCase):
    def some_points(self):
        return [Points([(given_ratio(Fraction(x)), given_ratio(-Fraction(y))) for x, y in zip(*lines)])
                for lines in told_lines()]

    def test_slopes_and_heights(self):
        """[183] Line i stands for the spot (s_i, -h_i)."""
        for points, (slopes, heights) in zip(self.some_points(), told_lines()):
            self.assertIsInstance(points, Straight)
            self.assertEqual((slopes, heights), ([fraction(ratio) for ratio in points.slopes],
                                                 [fraction(ratio) for ratio in points.heights]))
            self.assertEqual(told_chart(slopes, heights), points.chart())
            self.assertEqual([(s, -h) for s, h in zip(slopes, heights)], [
                tuple(map(fraction, spot)) for spot in points.points])
            for line in range(points.size):
                self.assertIsInstance(points.point(line), tuple)
                self.assertEqual(points.points[line], points.point(line))
        self.assertIsInstance(Points([[0, 1]]).points, tuple)

    def test_turns(self):
        """[183] Three points turn as their spots do, and as the sign of the chart in this order tells."""
        for points in self.some_points()[2:]:
            spots = [tuple(map(fraction, spot)) for spot in points.points]
            for names in list(permutations(range(points.size), 3))[::1 if points.size < 6 else 11]:
                (xa, ya), (xb, yb), (xc, yc) = [spots[name] for name in names]
                number = (xb - xa) * (yc - ya) - (yb - ya) * (xc - xa)
                told = (number > 0) - (number < 0)
                self.assertEqual((told, told), (points.turns_left(list(names)), points.chart().sign(names)))

    def test_lines_above(self):
        """[183] A line is above a meeting exactly if its spot is below the straight line through the two spots."""
        for points in self.some_points()[2::2]:
            spots = [tuple(map(fraction, spot)) for spot in points.points]
            for i, j in lots(points.size, 2):
                (xa, ya), (xb, yb) = spots[i], spots[j]
                told = tuple(k for k, (x, y) in enumerate(spots)
                             if k not in (i, j) and y < ya + (yb - ya) / (xb - xa) * (x - xa))
                self.assertEqual(told, above(points.chart(), (i, j)))

    def test_refusals(self):
        for value in (*NO_LISTS, [], (), *[[(0, 0), spot] for spot in NO_SPOTS]):
            self.due(BadKind, {"word": "points"}, Points, value)
        self.due(TooMany, {"word": "lines"}, Points, [(0, 0)] * 17)
        self.due(SameSlope, {"at": 2}, Points, [(0, 0), (1, 5), [1, 6], (0, 0)])
        points = Points([(0, 0), (1, 5), (2, 0)])
        for value in (*NO_INTEGERS, -1, 3):
            self.due(BadLine, {"line": value}, points.point, value)
            self.due(BadLine, {"line": value}, points.turns_left, (0, value, 9))
        for value in (*NO_LISTS, [], [0, 1], (0, 1, 2, 3)):
            self.due(BadKind, {"word": "three"}, points.turns_left, value)
        self.due(BadLine, {"line": 1}, points.turns_left, [1, 2, 1])

    def test_arguments_stay(self):
        given = [[0, 1], (2, 3)]
        points = Points(given)
        given[0][1] = 7
        given.append((5, 5))
        self.assertEqual(((0, 1), (2, 3)), points.points)


class PlaceTest(StraightCase):
    def test_places(self):
        """[185] The lots of the lines above spots are just the places; knots left of them have a lesser x."""
        for slopes, heights in told_lines()[:-1]:
            straight = straight_of(slopes, heights)
            chart, spots = straight.chart(), told_spots(slopes, heights)
            xs = sorted({spot[0] for spot in spots} | {Fraction(0)})
            tried = sorted(set(xs) | {(a + b) / 2 for a, b in zip(xs, xs[1:])} | {xs[0] - 1, xs[-1] + 1})
            found = set()
            for x in tried:
                levels = sorted(s * x + h for s, h in zip(slopes, heights))
                heights_tried = [(a + b) / 2 for a, b in zip(levels, levels[1:]) if a < b]
                for y in [*heights_tried, levels[0] - 1, levels[-1] + 1]:
                    told = tuple(k for k, (s, h) in enumerate(zip(slopes, heights)) if s * x + h > y)
                    self.assertEqual(told, place_at(straight, given_ratio(x), given_ratio(y)))
                    found.add(told)
                    self.check_sides(chart, spots, told, x)
                for y in set(levels):
                    through = [k for k, (s, h) in enumerate(zip(slopes, heights)) if s * x + h == y]
                    self.due(OnLine, {"line": through[0]}, place_at, straight, given_ratio(x), given_ratio(y))
            self.assertEqual(sorted(found), list(all_places(chart)))

    def check_sides(self, chart, spots, place, x):
        self.assertTrue(is_place(chart, place))
        for calls, way in ((left_knots, -1), (right_knots, 1)):
            for knot in calls(chart, place):
                meeting = [spot for spot in spots if spots[spot] == knot][0]
                self.assertGreater((meeting[0] - x) * way, 0)

    def test_refusals(self):
        self.asks_for_ratio("x", lambda value: place_at(THREE, value, None))
        self.asks_for_ratio("y", lambda value: place_at(THREE, 0, value))
        self.due(OnLine, {"line": 0}, place_at, THREE, 0, 0)
        self.due(OnLine, {"line": 1}, place_at, THREE, 0, Ratio(3, 3))


class ChangedTest(StraightCase):
    def test_moved(self):
        """[184] The chart stays."""
        for slopes, heights in told_lines():
            for made in (straight_of(slopes, heights), Points([(given_ratio(Fraction(s)), given_ratio(-Fraction(h)))
                                                               for s, h in zip(slopes, heights)])):
                for slope, height, x in ((1, 0, 0), (0, Fraction(-5, 2), 0), (0, 0, 3),
                                         (Fraction(1, 3), -7, Fraction(-2, 9))):
                    found = moved(made, *[given_ratio(Fraction(value)) for value in (slope, height, x)])
                    self.same([s + slope for s in slopes],
                              [h + height + x * s for s, h in zip(slopes, heights)], found)
                    self.assertEqual(made.chart(), found.chart())

    def test_scaled(self):
        """[184] Stays, contrary or mirrored."""
        for slopes, heights in told_lines():
            for made in (straight_of(slopes, heights), Points([(given_ratio(Fraction(s)), given_ratio(-Fraction(h)))
                                                               for s, h in zip(slopes, heights)])):
                for slope in (1, Fraction(2, 7), -1, Fraction(-9, 4)):
                    for height in (1, Fraction(5, 3), Fraction(-1, 2)):
                        found = scaled(made, given_ratio(Fraction(slope)), given_ratio(Fraction(height)))
                        rows = sorted((s * slope, h * height) for s, h in zip(slopes, heights))
                        self.same([s for s, _ in rows], [h for _, h in rows], found)
                        told = made.chart() if slope > 0 else made.chart().mirrored()
                        self.assertEqual(told if height > 0 else told.contrary(), found.chart())

    def test_refusals(self):
        self.asks_for_ratio("slope", lambda value: moved(THREE, value, None, None))
        self.asks_for_ratio("height", lambda value: moved(THREE, 0, value, None))
        self.asks_for_ratio("x", lambda value: moved(THREE, 0, 0, value))
        self.asks_for_ratio("slope", lambda value: scaled(THREE, value, None))
        self.asks_for_ratio("height", lambda value: scaled(THREE, 1, value))
        for value in (0, Ratio(0)):
            self.due(BadNumber, {"word": "slope"}, scaled, THREE, value, None)
            self.due(BadNumber, {"word": "height"}, scaled, THREE, -1, value)
        self.assertEqual(THREE.chart(), moved(THREE, 0, 0, 0).chart())

    def test_the_given_ones_stay(self):
        slopes, heights = THREE.slopes, THREE.heights
        moved(THREE, 1, 2, 3)
        scaled(THREE, -1, -1)
        self.assertEqual(((0, 1, 2), (0, 1, 0)), (THREE.slopes, THREE.heights))
        self.assertEqual((slopes, heights), (THREE.slopes, THREE.heights))


if __name__ == "__main__":
    unittest.main()
