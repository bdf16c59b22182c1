"""What the tests have in common: all small charts and drawings, larger ones, and errors that are due."""

import random
import unittest
from itertools import combinations, product
from math import comb

from bentlines.charts import Chart
from bentlines.drawings import Drawing

# Values that are no integer; True and False are among them.
NO_INTEGERS = (True, False, None, "1", 1.0, (1,), [1])
# Values that are neither a list nor a tuple.
NO_LISTS = (None, 3, True, "012", {0: 1, 1: 2, 2: 3}, {0, 1, 2}, range(3))
# Values that are no chart.
NO_CHARTS = (None, 4, "++++", (1, 1, 1, 1), [1])

UNSOUND = Chart.told(4, "+-++")


def every_chart(size):
    """All charts of so many lines, sound or not."""
    return [Chart(size, signs) for signs in product((-1, 0, 1), repeat=comb(size, 3))]


def every_sound_chart(size):
    return [chart for chart in every_chart(size) if chart.sound]


def every_turn(row):
    """All turns that can be done on a row, found by trying."""
    size = len(row)
    return [(p, m) for p in range(size) for m in range(2, size - p + 1)
            if all(row[at] < row[at + 1] for at in range(p, p + m - 1))]


def row_behind(row, turn):
    p, m = turn
    return row[:p] + tuple(reversed(row[p:p + m])) + row[p + m:]


def every_way(row):
    """All lists of turns that lead from the row to the last row."""
    turns = every_turn(row)
    if not turns:
        return [[]]
    return [[turn] + way for turn in turns for way in every_way(row_behind(row, turn))]


def every_drawing(size):
    return [Drawing(size, way) for way in every_way(tuple(range(size)))]


def some_drawings(size, many):
    """Drawings of so many lines that look arbitrary but are the same in each run."""
    source = random.Random(1000 * size + many)
    found = []
    for _ in range(many):
        row = tuple(range(size))
        turns = []
        while choices := every_turn(row):
            turns.append(source.choice(choices))
            row = row_behind(row, turns[-1])
        found.append(Drawing(size, turns))
    return found


def some_charts(size, many):
    """Charts of so many lines, hardly ever sound, the same in each run."""
    source = random.Random(2000 * size + many)
    return [Chart(size, [source.choice((-1, 0, 1)) for _ in range(comb(size, 3))]) for _ in range(many)]


def lots(size, many):
    return list(combinations(range(size), many))


class DueCase(unittest.TestCase):
    """A test case that asks for errors with their attributes."""

    def due(self, error, attributes, call, *arguments):
        """The call raises just this error; attributes are its arguments in the interface's order."""
        with self.assertRaises(error) as caught:
            call(*arguments)
        self.assertIs(error, caught.exception.__class__)
        self.assertEqual(repr(attributes), repr({name: getattr(caught.exception, name) for name in attributes}))
        return caught.exception
