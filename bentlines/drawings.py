"""Drawings: sequences of turns from the first row to the last."""

from bentlines.charts import Chart, check_chart, check_sound
from bentlines.errors import BadKind, BadTurn
from bentlines.links import knots_on
from bentlines.numbers import check_int, sign_of
from bentlines.rows import lines_of_turn, row_behind_turn, stands_rising, turn_fits
from bentlines.threes import check_size, threes_in


def check_drawing(drawing):
    """Return the drawing if it is one."""
    if not isinstance(drawing, Drawing):
        raise BadKind("drawing")
    return drawing


def uppermost_turn(row, ways):
    """Return the turn of the uppermost ready knot.

    ways has for each line the knots that it still has to meet, in order.
    """
    for at, line in enumerate(row):
        if ways[line]:
            knot = ways[line][0]
            if all([ways[other][0] == knot for other in knot]):
                return (at, len(knot))
    return None


def normal_turns(chart):
    """Return the list of the turns of the normal drawing of a sound chart."""
    ways = [knots_on(chart, line) for line in chart.lines]
    row = chart.lines
    turns = []
    while row != chart.lines[::-1]:
        turn = uppermost_turn(row, ways)
        for line in lines_of_turn(row, turn):
            ways[line] = ways[line][1:]
        row = row_behind_turn(row, turn)
        turns.append(turn)
    return turns


class Drawing:
    """A sequence of turns that leads from the first row to the last."""

    def __init__(self, size, turns):
        row = Drawing.first_row(size)
        last = row[::-1]
        if not isinstance(turns, (list, tuple)):
            raise BadKind("turns")
        for at, turn in enumerate(turns):
            if not turn_fits(turn, size) or not stands_rising(row, turn):
                raise BadTurn(at)
            row = row_behind_turn(row, turn)
        if row != last:
            raise BadTurn(len(turns))
        self.size = size
        self.turns = tuple([tuple(turn) for turn in turns])

    @classmethod
    def of(cls, chart):
        """Return the normal drawing of a sound chart."""
        check_chart(chart)
        check_sound(chart)
        return cls(chart.size, normal_turns(chart))

    @staticmethod
    def first_row(size):
        """Return the row 0, 1, .., size-1."""
        return tuple(range(check_size(size)))

    def rows(self):
        """Yield the row ahead of the first turn, then the row behind each turn."""
        row = Drawing.first_row(self.size)
        yield row
        for turn in self.turns:
            row = row_behind_turn(row, turn)
            yield row

    def row_behind(self, many):
        """Return the row behind the first so many turns."""
        check_int(many, "many", 0, len(self.turns))
        found = list(self.rows())
        return found[many]

    def knots(self):
        """Return the lots of lines of the turns, in the order of the turns."""
        return tuple([lines_of_turn(row, turn) for row, turn in zip(self.rows(), self.turns)])

    def chart(self):
        """Return the chart of the drawing."""
        when = {}
        for at, knot in enumerate(self.knots()):
            for first in knot:
                for second in knot:
                    when[(first, second)] = at
        signs = [sign_of(when[(j, k)] - when[(i, j)]) for i, j, k in threes_in(list(range(self.size)))]
        return Chart(self.size, signs)

    def mirrored(self):
        """Return the drawing with the turns in the opposite order."""
        return Drawing(self.size, self.turns[::-1])

    def __eq__(self, other):
        return isinstance(other, Drawing) and self.size == other.size and self.turns == other.turns

    def __len__(self):
        return len(self.turns)

    def __iter__(self):
        return iter(self.turns)
