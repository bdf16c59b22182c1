"""The module ninths: points [188] and [189]."""

import random
import unittest
from fractions import Fraction

from bentlines.charts import Chart
from bentlines.errors import BadKind, BadLine, Degenerate
from bentlines.links import knots_of
from bentlines.loose import loosened
from bentlines.ninths import find_ninth, is_ninth, is_tenth, nine_points, ten_points
from bentlines.ratios import Ratio
from bentlines.straights import Points
from tests.helpers import NO_INTEGERS, NO_LISTS, UNSOUND, DueCase, huge_charts, large_charts, small_charts
from tests.test_ratios import fraction
from tests.test_straights import NO_SPOTS, given_ratio, straight_of, told_lines

# The threes of [188], the digits as indices.
NINTH_ZERO = "123 456 157 247 168 348 269 359".split()
NINTH_OTHER = "124 125 126 145 245 345 789".split()
PAPPUS = ((0, 0), (2, 0), (5, 0), (1, 2), (4, 2), (7, 2))
DESARGUES = ((0, 0), (1, 1), (2, -1), (3, 5), (4, 4), (5, Fraction(-5, 2)), (7, Fraction(35, 3)))


def told_ninth(chart, lines):
    def zero(word):
        return chart.sign([lines[int(digit) - 1] for digit in word]) == 0
    return all(map(zero, NINTH_ZERO)) and not any(map(zero, NINTH_OTHER))


def told_tenth(chart, lines):
    """By the words of [188], with o, a_1 .. a_3, b_1 .. b_3, x_1 .. x_3."""
    o, a, b, x = lines[0], lines[1:4], lines[4:7], lines[7:]

    def zero(*names):
        return chart.sign(names) == 0
    pairs = ((0, 1, 2), (0, 2, 1), (1, 2, 0))
    return (all(zero(o, a[i], b[i]) for i in range(3))
            and all(zero(a[i], a[j], x[k]) and zero(b[i], b[j], x[k]) for i, j, k in pairs)
            and not any(zero(o, a[i], a[j]) for i, j, _ in pairs) and not zero(*x))


def spots_given(spots):
    return [tuple(given_ratio(Fraction(value)) for value in spot) for spot in spots]


def told_crossing(p, q, r, s):
    """Where the straight lines p q and r s cross, by Cramer's rule; None if they do not."""
    a, b = q[1] - p[1], p[0] - q[0]
    c, d = s[1] - r[1], r[0] - s[0]
    e, f = a * p[0] + b * p[1], c * r[0] + d * r[1]
    det = a * d - b * c
    return None if det == 0 else (Fraction(e * d - b * f) / det, Fraction(a * f - e * c) / det)


def told_nine(spots):
    p = [None, *spots]
    return list(spots) + [told_crossing(p[1], p[5], p[2], p[4]), told_crossing(p[1], p[6], p[3], p[4]),
                          told_crossing(p[2], p[6], p[3], p[5])]


def told_ten(spots):
    _, a, b, c, d, e, f = spots
    return list(spots) + [told_crossing(b, c, e, f), told_crossing(a, c, d, f), told_crossing(a, b, d, e)]


def on_line(source, begin, way, many):
    """Spots on one straight line."""
    steps = source.sample(range(-30, 30), many)
    return [(begin[0] + Fraction(step * way[0], 7), begin[1] + Fraction(step * way[1], 7)) for step in steps]


def some_nines():
    """Six spots each, three on one straight line and three on another, the same in each run."""
    source = random.Random(188)
    found = [PAPPUS]
    for _ in range(12):
        begin = [(source.randint(-9, 9), source.randint(-9, 9)) for _ in range(2)]
        ways = [(source.randint(-5, 5), source.randint(1, 5)) for _ in range(2)]
        found.append(on_line(source, begin[0], ways[0], 3) + on_line(source, begin[1], ways[1], 3))
    return found


def some_tens():
    """Seven spots each, with three straight lines through the first, the same in each run."""
    source = random.Random(189)
    found = [DESARGUES]
    for _ in range(12):
        centre = (Fraction(source.randint(-9, 9)), Fraction(source.randint(-9, 9)))
        rows = [on_line(source, centre, (source.randint(1, 5), way), 2) for way in (-2, 3, 1)]
        found.append([centre, *[row[0] for row in rows], *[row[1] for row in rows]])
    return found


def told_error(spots, many, flat):
    """The word of the error that is due, or None; many tells all spots, flat the threes on straight lines."""
    if len(set(spots)) < len(spots):
        return "three"
    for i, j, k in flat:
        (xa, ya), (xb, yb), (xc, yc) = spots[i], spots[j], spots[k]
        if (xb - xa) * (yc - ya) != (yb - ya) * (xc - xa):
            return "three"
    found = many(spots)
    if None in found:
        return "meeting"
    return "x" if len({spot[0] for spot in found}) < len(found) else None


FLAT = {nine_points: ((0, 1, 2), (3, 4, 5)), ten_points: ((0, 1, 4), (0, 2, 5), (0, 3, 6))}
TOLD = {nine_points: told_nine, ten_points: told_ten}


class PointsTest(DueCase):
    def check_points(self, call, spots):
        word = told_error(spots, TOLD[call], FLAT[call])
        if word is not None:
            self.due(Degenerate, {"word": word}, call, *spots_given(spots))
            return None
        points, names = call(*spots_given(spots))
        told = TOLD[call](spots)
        self.assertIsInstance(points, Points)
        self.assertEqual(sorted(told), [tuple(map(fraction, spot)) for spot in points.points])
        self.assertEqual(tuple(sorted(told).index(spot) for spot in told), names)
        return points.chart(), names

    def test_nine_points(self):
        """[189] All nine threes have the sign 0; the last knot loosened makes the nine lines fit as a ninth."""
        fitting = 0
        for spots in some_nines():
            made = self.check_points(nine_points, spots)
            if made is not None:
                chart, names = made
                for word in (*NINTH_ZERO, "789"):
                    self.assertEqual(0, chart.sign([names[int(digit) - 1] for digit in word]))
                for word in NINTH_OTHER[:-1]:
                    self.assertNotEqual(0, chart.sign([names[int(digit) - 1] for digit in word]))
                self.check_loosened(is_ninth, chart, names, names[6:])
                fitting += tuple(sorted(names[6:])) in knots_of(chart)
        self.assertGreaterEqual(fitting, 5)

    def test_ten_points(self):
        """[189] The ten threes have the sign 0, and o a_i a_j another one."""
        fitting = 0
        for spots in some_tens():
            made = self.check_points(ten_points, spots)
            if made is not None:
                chart, names = made
                self.assertIs(False, told_tenth(chart, names))
                self.assertEqual(0, chart.sign(names[7:]))
                self.check_loosened(is_tenth, chart, names, names[7:])
                fitting += tuple(sorted(names[7:])) in knots_of(chart)
        self.assertGreaterEqual(fitting, 5)

    def check_loosened(self, call, chart, names, last):
        self.assertIs(False, call(chart, names))
        if tuple(sorted(last)) in knots_of(chart):
            for sign in (1, -1):
                bent = loosened(chart, last, [sign])
                self.assertTrue(bent.sound)
                self.assertIs(True, call(bent, list(names)))

    def test_degenerate_spots(self):
        """[189] Equal spots, spots not on one straight line, straight lines that do not cross, equal x."""
        for at in range(6):
            spots = list(PAPPUS)
            spots[at] = spots[at - 1]
            self.due(Degenerate, {"word": "three"}, nine_points, *spots)
            spots[at] = (spots[at - 1][0], 77)
            self.due(Degenerate, {"word": "three"}, nine_points, *spots)
        # p_1 p_5 and p_2 p_4 are parallel; all six on one straight line, so that the two are one; equal x.
        for spots, word in ((((0, 0), (2, 0), (5, 0), (11, 2), (9, 2), (7, 2)), "meeting"),
                            (((0, 0), (1, 0), (2, 0), (3, 0), (4, 0), (5, 0)), "meeting"),
                            (((0, 0), (2, 0), (5, 0), (0, 2), (4, 2), (7, 2)), "x"),
                            (((0, 0), (0, 1), (0, 2), (3, 0), (3, 5), (3, 9)), "x"),
                            (((0, 0), (2, 0), (6, 0), (0, 2), (2, 2), (6, 2)), "x")):
            exact = [tuple(map(Fraction, spot)) for spot in spots]
            self.assertEqual(word, told_error(exact, told_nine, FLAT[nine_points]))
            self.due(Degenerate, {"word": word}, nine_points, *spots)
        seven = spots_given(DESARGUES)
        for at in range(7):
            spots = list(seven)
            spots[at] = spots[at - 1]
            self.due(Degenerate, {"word": "three"}, ten_points, *spots)
        # Two such triangles of the same form have parallel sides.
        double = ((0, 0), (1, 1), (2, -1), (3, 5), (2, 2), (4, -2), (6, 10))
        self.due(Degenerate, {"word": "meeting"}, ten_points, *double)
        for at in (4, 5, 6):
            off = [*double[:at], (double[at][0], 77), *double[at + 1:]]
            self.due(Degenerate, {"word": "three"}, ten_points, *off)
        self.due(Degenerate, {"word": "x"}, ten_points, (0, 0), (0, 1), (2, -1), (3, 5), (0, 5), (4, -2), (9, 15))

    def test_lists_and_integers(self):
        given = [list(spot) for spot in PAPPUS]
        points, names = nine_points(*given)
        self.assertEqual((0, 3, 7, 1, 5, 8, 2, 4, 6), names)
        self.assertEqual((Ratio(8, 5), Ratio(4, 5)), points.point(names[6]))
        self.assertEqual([list(spot) for spot in PAPPUS], given)

    def test_refusals(self):
        for at, word in enumerate("first second third fourth fifth sixth".split()):
            for value in NO_SPOTS:
                given = [*PAPPUS[:at], value, *[None] * (5 - at)]
                self.due(BadKind, {"word": word}, nine_points, *given)
                self.due(BadKind, {"word": word}, nine_points, *[(0, 0)] * at, value, *[None] * (5 - at))
        for at, word in enumerate("centre a b c d e f".split()):
            for value in NO_SPOTS:
                self.due(BadKind, {"word": word}, ten_points, *[(0, 0)] * at, value, *[None] * (6 - at))


class FitsTest(DueCase):
    def bent(self, call, spots, last, sign):
        points, names = call(*spots_given(spots))
        return loosened(points.chart(), names[last:], [sign]), names

    def test_each_sign_matters(self):
        """[188] Each of the threes that are told decides."""
        for call, fits, told, last, spots in ((nine_points, is_ninth, told_ninth, 6, PAPPUS),
                                              (ten_points, is_tenth, told_tenth, 7, DESARGUES)):
            chart, names = self.bent(call, spots, last, -1)
            self.assertEqual((True, True), (fits(chart, names), told(chart, names)))
            for knot in knots_of(chart):
                if len(knot) == 3:
                    looser = loosened(chart, knot, [1])
                    self.assertIs(told(looser, names), fits(looser, names))
            source = random.Random(7)
            for _ in range(300):
                shuffled = list(names)
                source.shuffle(shuffled)
                self.assertIs(told(chart, shuffled), fits(chart, shuffled))
            for at in range(len(names) - 1):
                swapped = list(names)
                swapped[at], swapped[at + 1] = swapped[at + 1], swapped[at]
                self.assertIs(told(chart, swapped), fits(chart, swapped))

    def test_other_charts(self):
        """[188] Not in fans, not where all threes have the sign 0, and never in the chart of a straight."""
        for chart in [Chart.fan(9), Chart(9, [0] * 84), Chart.fan(16), Chart(16, [0] * 560)]:
            self.assertIs(False, is_ninth(chart, list(range(9))))
            self.assertIsNone(find_ninth(chart))
            if chart.size > 9:
                self.assertIs(False, is_tenth(chart, list(range(10))))
        for lines in told_lines():
            self.assertIsNone(find_ninth(straight_of(*lines).chart()))
        for spots in (PAPPUS, *some_nines()[1:4]):
            if told_error(spots, told_nine, FLAT[nine_points]) is None:
                self.assertIsNone(find_ninth(nine_points(*spots_given(spots))[0].chart()))
        grid = Points(sorted((100 * i + j, 100 * j - i) for i in range(4) for j in range(4)))
        self.assertIsNone(find_ninth(grid.chart()))

    def test_a_tenth_with_two_arms_on_one_line(self):
        """[188] All ten threes have the sign 0 and x_1 x_2 x_3 does not, but o a_i a_j has it: this is no tenth."""
        centre, third, far = (0, 0), (7, 7), (19, 19)
        a, b, c, d = [(Fraction(x), Fraction(0)) for x in (10, 23, 37, 51)]
        for at in range(3):
            # The arm with this index goes its own way, the two others are on one straight line.
            arms = [(a, c), (b, d)]
            arms.insert(at, (third, far))
            i, j = [k for k in range(3) if k != at]
            x = [None] * 3
            x[j] = told_crossing(arms[i][0], third, arms[i][1], far)
            x[i] = told_crossing(arms[j][0], third, arms[j][1], far)
            x[at] = (Fraction(99), Fraction(0))
            spots = [centre, *[arm[0] for arm in arms], *[arm[1] for arm in arms], *x]
            points = Points(spots_given(sorted(spots)))
            names = tuple(sorted(spots).index(spot) for spot in spots)
            chart = points.chart()
            self.assertEqual(0, chart.sign((names[0], names[1 + i], names[1 + j])))
            self.assertNotEqual(0, chart.sign(names[7:]))
            self.assertEqual((False, False), (told_tenth(chart, names), is_tenth(chart, names)))

    def test_found(self):
        """Any nine lines that fit, wherever they stand; None if there are none."""
        for sign in (1, -1):
            chart, _ = self.bent(nine_points, PAPPUS, 6, sign)
            for made in (chart, -chart, ~chart, chart >> 5, Chart.fan(3) + chart, chart + Chart(7, [0] * 35),
                         Chart(4, [0] * 4) + chart + Chart.fan(3)):
                found = find_ninth(made)
                self.assertIsInstance(found, tuple)
                self.assertTrue(told_ninth(made, found))
                self.assertIs(True, is_ninth(made, found))
            for knot in knots_of(chart):
                if len(knot) == 3:
                    self.assertIsNone(find_ninth(loosened(chart, knot, [1])))
        for chart in small_charts()[::9] + large_charts() + huge_charts():
            found = find_ninth(chart)
            self.assertTrue(found is None or told_ninth(chart, found))

    def test_refusals(self):
        for call, many in ((is_ninth, 9), (is_tenth, 10)):
            self.asks_for_chart(call, None)
            for value in (*NO_LISTS, [], list(range(many - 1)), tuple(range(many + 1))):
                self.due(BadKind, {"word": "lines"}, call, UNSOUND, value)
            big = UNSOUND + UNSOUND + UNSOUND
            for value in (*NO_INTEGERS, -1, 12, 3):
                self.due(BadLine, {"line": value}, call, big, [3, 1, value, *[99] * (many - 3)])
            self.due(BadLine, {"line": 4}, call, UNSOUND, list(range(many)))
            self.asks_for_soundness(lambda chart, last=many: call(chart + Chart.fan(8), list(range(last))[::-1]))
        self.asks_for_chart(find_ninth)
        self.asks_for_soundness(find_ninth)
        lines = list(range(9))
        is_ninth(Chart.fan(9), lines)
        self.assertEqual(list(range(9)), lines)


if __name__ == "__main__":
    unittest.main()
