"""Tallies: how many lines of a lot are among the highest of a row."""

from bentlines.charts import check_chart, check_sound
from bentlines.crossings import knot_edges
from bentlines.drawings import check_drawing
from bentlines.links import all_knots, knot_from
from bentlines.threes import MOST_LINES, check_line, common, lot_of


def gains(chart, lot, knot):
    """Return by how much the tallies of the lot at the edges 1 .. n-1 grow at the turn of the knot."""
    check_chart(chart)
    names = lot_of(lot, chart.size)
    check_sound(chart)
    lines = knot_from(all_knots(chart), knot)
    grown = [0] * chart.size
    for at, edge in enumerate(knot_edges(chart, lines)):
        # The last lines of the knot come to stand where the first ones stood.
        grown[edge] = len(common(lines[-1 - at:], names)) - len(common(lines[:at + 1], names))
    return tuple(grown[1:])


def best_row(drawing, lot):
    """Return the number of the first row of the drawing in which least is missing of the lot, and how much that is."""
    check_drawing(drawing)
    names = lot_of(lot, drawing.size)
    lacks = [missing(row, names) for row in drawing.rows()]
    least = min(lacks)
    return (lacks.index(least), least)


def tallies(row, lot):
    """Return how many lines of the lot are among the g highest of the row, for g = 1 .. n-1."""
    return tuple([len(common(row[:edge], lot)) for edge in range(1, len(row))])


def missing(row, lot):
    """Return how much is missing of the lot in the row."""
    return sum([min(len(lot), at + 1) - tally for at, tally in enumerate(tallies(row, lot))])


class Watch:
    """Counts, row by row of drawings, the lines of one lot among the highest lines."""

    def __init__(self, lot):
        self.lot = lot_of(lot, MOST_LINES)

    def __call__(self, drawing):
        """Return for each row of the drawing the tallies at the edges 1 .. n-1."""
        check_drawing(drawing)
        for line in self.lot:
            check_line(line, drawing.size)
        return [tallies(row, self.lot) for row in drawing.rows()]
