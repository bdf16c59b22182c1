"""What the tests have in common: all small charts and drawings, larger ones, and errors that are due."""

import random
import unittest
from functools import cache
from itertools import combinations, product
from math import comb

from bentlines.beside import stairs
from bentlines.bricks import bricks_of
from bentlines.charts import Chart
from bentlines.convex import by_middle
from bentlines.drawings import Drawing
from bentlines.errors import BadKind, BadLine, BadNumber, NotSimple, NotTriangle, Unsound

# Values that are no integer; True and False are among them.
NO_INTEGERS = (True, False, None, "1", 1.0, (1,), [1])
# Values that are neither a list nor a tuple.
NO_LISTS = (None, 3, True, "012", {0: 1, 1: 2, 2: 3}, {0, 1, 2}, range(3))
# Values that are no chart.
NO_CHARTS = (None, 4, "++++", (1, 1, 1, 1), [1])

UNSOUND = Chart.told(4, "+-++")

# Its knots are 012, 03, 13, 23.
WITH_KNOT = Chart.told(4, "0+++")
# What is no knot of WITH_KNOT.
NO_KNOTS = (*NO_LISTS, [], (), [0], [0, 1], (1, 2), [0, 1, 2, 3], [0, 0, 3], (0, 4), [-1, 0], (False, 3), [0, "3"],
            [3, None], (0, 3.0), [0, 3, 3])


def every_chart(size):
    """All charts of so many lines, sound or not."""
    return [Chart(size, signs) for signs in product((-1, 0, 1), repeat=comb(size, 3))]


@cache
def every_sound_chart(size):
    return [chart for chart in every_chart(size) if chart.sound]


def every_turn(row):
    """All turns that can be done on a row, found by trying."""
    size = len(row)
    return [(p, m) for p in range(size) for m in range(2, size - p + 1)
            if all(row[at] < row[at + 1] for at in range(p, p + m - 1))]


def row_behind(row, turn):
    p, m = turn
    return row[:p] + tuple(reversed(row[p:p + m])) + row[p + m:]


def every_way(row):
    """All lists of turns that lead from the row to the last row."""
    turns = every_turn(row)
    if not turns:
        return [[]]
    return [[turn] + way for turn in turns for way in every_way(row_behind(row, turn))]


@cache
def every_drawing(size):
    return [Drawing(size, way) for way in every_way(tuple(range(size)))]


def some_drawings(size, many):
    """Drawings of so many lines that look arbitrary but are the same in each run."""
    source = random.Random(1000 * size + many)
    found = []
    for _ in range(many):
        row = tuple(range(size))
        turns = []
        while choices := every_turn(row):
            turns.append(source.choice(choices))
            row = row_behind(row, turns[-1])
        found.append(Drawing(size, turns))
    return found


def some_charts(size, many):
    """Charts of so many lines, hardly ever sound, the same in each run."""
    source = random.Random(2000 * size + many)
    return [Chart(size, [source.choice((-1, 0, 1)) for _ in range(comb(size, 3))]) for _ in range(many)]


def some_simple_charts(size, many):
    """Simple sound charts of so many lines, those of arbitrary drawings, the same in each run."""
    source = random.Random(3000 * size + many)
    found = []
    for _ in range(many):
        row = tuple(range(size))
        turns = []
        while choices := [turn for turn in every_turn(row) if turn[1] == 2]:
            turns.append(source.choice(choices))
            row = row_behind(row, turns[-1])
        found.append(Drawing(size, turns).chart())
    return found


def lots(size, many):
    return list(combinations(range(size), many))


def told_knots(chart):
    """The knots by the words of [19]: the largest lots all of whose threes have the sign 0."""
    flat = [lot for many in range(2, chart.size + 1) for lot in combinations(range(chart.size), many)
            if all(chart.sign(three) == 0 for three in combinations(lot, 3))]
    return sorted(lot for lot in flat if not any(set(lot) < set(other) for other in flat))


def told_linked(chart, knot, other):
    """Whether knot is linked to other, by the words of [20]."""
    for line in set(knot) & set(other):
        for first in knot:
            for second in other:
                if len({line, first, second}) == 3:
                    sign = chart.sign(sorted((line, first, second)))
                    if (sign if first < second else -sign) == 1:
                        return True
    return False


def told_before(chart):
    """For each knot the knots before it, by the words of [20]."""
    knots = told_knots(chart)
    before = {knot: {other for other in knots if told_linked(chart, other, knot)} for knot in knots}
    for middle in knots:
        for knot in knots:
            if middle in before[knot]:
                before[knot] |= before[middle]
    return before


def told_row(chart, lot):
    """The row behind a closed lot, by the words of [24]."""
    where = {pair: knot for knot in told_knots(chart) for pair in combinations(knot, 2)}
    stands = {}
    for line in range(chart.size):
        higher = [x for x in range(line) if where[x, line] not in lot]
        higher += [x for x in range(line + 1, chart.size) if where[line, x] in lot]
        stands[len(higher)] = line
    return tuple(stands[at] for at in range(chart.size))


def every_lot(things):
    """All lots of some things, as tuples in their order."""
    return [lot for many in range(len(things) + 1) for lot in combinations(things, many)]


@cache
def drawn_charts(size):
    """The charts of all drawings of so many lines, each once; up to five lines there are not too many."""
    marks = sorted({drawing.chart().marks for drawing in every_drawing(size)})
    return [Chart.told(size, text) for text in marks]


@cache
def simple_charts(size):
    """All simple sound charts of so many lines, in ascending order of their signs, found by trying."""
    charts = [Chart(size, signs) for signs in product((-1, 1), repeat=comb(size, 3))]
    return [chart for chart in charts if chart.sound]


def small_charts():
    """All sound charts of up to five lines."""
    return [chart for size in (1, 2, 3, 4, 5) for chart in drawn_charts(size)]


def few_charts():
    """All sound charts of up to four lines, and some of five lines."""
    return [chart for size in (1, 2, 3, 4) for chart in drawn_charts(size)] + drawn_charts(5)[::6]


def small_simple_charts():
    """All simple sound charts of up to five lines."""
    return [chart for size in (1, 2, 3, 4, 5) for chart in simple_charts(size)]


@cache
def large_simple_charts():
    """Simple sound charts of more lines: the fan and its contrary, and charts of some drawings."""
    drawn = [chart for size in (6, 7, 8, 9) for chart in some_simple_charts(size, 4)]
    return drawn + [Chart.fan(6), -Chart.fan(7), Chart.fan(3) + Chart.fan(4)]


@cache
def huge_simple_charts():
    """Simple sound charts of many lines."""
    return some_simple_charts(12, 2) + some_simple_charts(15, 1) + some_simple_charts(16, 2) + [Chart.fan(16)]


def told_meeting(chart, line):
    """The lines that the line of a simple chart meets, in the order of the turns of a drawing."""
    met = [other for knot in Drawing.of(chart).knots() if line in knot for other in knot if other != line]
    return tuple(met)


def told_above(chart, first, second):
    """The lines above the meeting of two lines, by the words of [31]."""
    i, k = sorted((first, second))
    return tuple(x for x in range(chart.size) if x not in (i, k)
                 and chart.sign(sorted((i, k, x))) == (1 if i < x < k else -1))


def large_charts():
    """Sound charts of more lines: fans, all lines in one knot, and charts of some drawings."""
    drawn = [drawing.chart() for size in (6, 7, 8) for drawing in some_drawings(size, 3)]
    return drawn + [Chart.fan(7), -Chart.fan(6), Chart(7, [0] * 35), Chart(4, [0] * 4) + Chart.fan(3)]


def huge_charts():
    """Sound charts of so many lines that not all of their lots can be gone through."""
    drawn = [drawing.chart() for size in (12, 16) for drawing in some_drawings(size, 2)]
    return drawn + [Chart.fan(16), Chart(16, [0] * 560), Chart(5, [0] * 10) + Chart.fan(9)]


@cache
def middle_charts():
    """Charts of 8 to 16 lines told by the middle, each with its signs."""
    source = random.Random(4000)
    told = [tuple(source.choice((1, -1)) for _ in range(size - 2)) for size in (8, 9, 11, 12, 14, 16)]
    return [(by_middle(signs), signs) for signs in told + [(1, -1) * 7, (-1,) * 5 + (1,) * 9]]


@cache
def built_charts():
    """Charts of many lines that are not drawn by chance: bricks, stairs, the fan, charts told by the middle."""
    bricks = [bricks_of(size).chart() for size in (4, 5, 8, 9, 13, 16)]
    climbed = [stairs(a, b) for a, b in ((3, 3), (2, 8), (3, 4), (4, 3), (3, 5), (16, 2))]
    return bricks + climbed + [Chart.fan(16)] + [chart for chart, _ in middle_charts()]


class DueCase(unittest.TestCase):
    """A test case that asks for errors with their attributes."""

    def due(self, error, attributes, call, *arguments):
        """The call raises just this error; attributes are its arguments in the interface's order."""
        with self.assertRaises(error) as caught:
            call(*arguments)
        self.assertIs(error, caught.exception.__class__)
        self.assertEqual(repr(attributes), repr({name: getattr(caught.exception, name) for name in attributes}))
        return caught.exception

    def asks_for_chart(self, call, *others):
        """The chart is asked ahead of the other arguments."""
        for value in NO_CHARTS:
            self.due(BadKind, {"word": "chart"}, call, value, *others)

    def asks_for_soundness(self, call, *others):
        """A chart that is not sound is told with its least bad four."""
        self.due(Unsound, {"four": (0, 1, 2, 3)}, call, UNSOUND, *others)
        self.due(Unsound, {"four": (0, 1, 2, 3)}, call, UNSOUND + UNSOUND, *others)
        self.due(Unsound, {"four": (1, 2, 3, 4)}, call, Chart.fan(1) + UNSOUND, *others)

    def asks_for_knot(self, call, *others):
        """A knot is asked for, behind Unsound; others are the arguments behind it."""
        for value in (None, (0, 1), [9]):
            self.asks_for_soundness(call, value, *others)
        for value in NO_KNOTS:
            self.due(BadKind, {"word": "knot"}, call, WITH_KNOT, value, *others)

    def asks_for_pair(self, call, *others):
        """A pair of lines of UNSOUND is asked for, ahead of Unsound; others are the arguments behind it."""
        for value in (*NO_LISTS, [], [0], (0, 1, 2), [9, 9, 9]):
            self.due(BadKind, {"word": "pair"}, call, UNSOUND, value, *others)
        for value in (*NO_INTEGERS, 4, -1):
            self.due(BadLine, {"line": value}, call, UNSOUND, (value, 9), *others)
            self.due(BadLine, {"line": value}, call, UNSOUND, [0, value], *others)
        self.due(BadLine, {"line": 2}, call, UNSOUND, (2, 2), *others)

    def asks_for_line(self, call, *others):
        """One line of UNSOUND is asked for, ahead of Unsound, behind the other arguments."""
        for value in (*NO_INTEGERS, 4, -1):
            self.due(BadLine, {"line": value}, call, UNSOUND, *others, value)

    def asks_for_simplicity(self, call, *others):
        """A chart that is not simple is told with its least knot, behind Unsound."""
        self.due(NotSimple, {"knot": (0, 1, 2)}, call, WITH_KNOT, *others)
        self.due(NotSimple, {"knot": (1, 2, 3)}, call, Chart.fan(1) + WITH_KNOT, *others)
        self.due(NotSimple, {"knot": (0, 1, 2, 3)}, call, Chart(4, [0] * 4), *others)
        self.due(Unsound, {"four": (0, 1, 2, 3)}, call, Chart.told(4, "+-0+"), *others)
        self.asks_for_soundness(call, *others)

    def asks_for_edge(self, call, *others):
        """An edge of UNSOUND is asked for, ahead of Unsound, behind the other arguments."""
        for value in (*NO_INTEGERS, 0, 4, -1):
            self.due(BadNumber, {"word": "edge"}, call, UNSOUND, *others, value)

    def asks_for_three(self, call, *others):
        """A three of lines of UNSOUND is asked for, ahead of Unsound; others are the arguments behind it."""
        for value in (*NO_LISTS, [], [0, 1], (0, 1, 2, 3), [9, 9]):
            self.due(BadKind, {"word": "three"}, call, UNSOUND, value, *others)
        for value in (*NO_INTEGERS, 4, -1):
            self.due(BadLine, {"line": value}, call, UNSOUND, (0, value, 9), *others)
        self.due(BadLine, {"line": 2}, call, UNSOUND, [2, 1, 2], *others)

    def asks_for_triangle(self, call):
        """A triangle is asked for, behind all that is asked of a simple chart."""
        self.asks_for_chart(call, None)
        self.asks_for_three(call)
        self.asks_for_simplicity(call, [2, 0, 1])
        self.due(NotTriangle, {"three": (0, 1, 3)}, call, Chart.fan(4), (3, 0, 1))
        self.due(NotTriangle, {"three": (0, 2, 4)}, call, Chart.fan(5), [4, 0, 2])

    def asks_for_lot(self, call, *others):
        """A lot of lines of UNSOUND is asked for, ahead of Unsound; others are the arguments behind it."""
        for value in NO_LISTS:
            self.due(BadKind, {"word": "lot"}, call, UNSOUND, value, *others)
        for value in (*NO_INTEGERS, 4, -1):
            self.due(BadLine, {"line": value}, call, UNSOUND, [2, value, 9, 2], *others)
        self.due(BadLine, {"line": 1}, call, UNSOUND, (0, 1, 2, 1, 2), *others)
