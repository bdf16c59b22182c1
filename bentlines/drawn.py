"""Drawings along orders of the knots, and the rows behind closed lots."""

from bentlines.charts import check_chart, check_sound
from bentlines.drawings import Drawing
from bentlines.errors import BadKind, NotReady, TooMany
from bentlines.links import checked_closed, checked_sequence, first_unready, has_each_once, knots_on, links_back
from bentlines.rows import row_behind_turn

MOST_ROWS = 4000


def drawing_along(chart, knots):
    """Return the drawing with the chart that turns the knots in this sequence."""
    order = checked_sequence(chart, knots)
    if not has_each_once(chart, order):
        raise BadKind("knots")
    wrong = first_unready(links_back(chart), order)
    if wrong is not None:
        raise NotReady(wrong)
    return Drawing(chart.size, turns_along(chart, order))


def normal_order(chart):
    """Return the knots in the sequence of the normal drawing."""
    return Drawing.of(chart).knots()


def row_after(chart, knots):
    """Return the row behind the closed lot."""
    return row_behind_lot(chart, checked_closed(chart, knots))


def count_rows(chart):
    """Return the number of closed lots, which is that of the rows of all drawings with the chart."""
    check_chart(chart)
    check_sound(chart)
    ways = [knots_on(chart, line) for line in chart.lines]
    total = 0
    layer = [(0,) * chart.size]
    while layer:
        total = total + len(layer)
        if total > MOST_ROWS:
            raise TooMany("rows")
        layer = next_layer(ways, layer)
    return total


def turns_along(chart, order):
    """Return the list of the turns of these knots; each must be ready behind those before it."""
    row = chart.lines
    turns = []
    for knot in order:
        turn = (row.index(knot[0]), len(knot))
        turns.append(turn)
        row = row_behind_turn(row, turn)
    return turns


def row_behind_lot(chart, lot):
    """Return the row behind a closed lot of knots; nothing is checked."""
    changed = {(first, second): True for knot in lot for first in knot for second in knot}
    lines = {}
    for line in chart.lines:
        over = [other for other in chart.lines
                if other != line and (other < line) != ((other, line) in changed)]
        lines[len(over)] = line
    return tuple([lines[at] for at in chart.lines])


def next_layer(ways, layer):
    """Return the closed lots that have one knot more than some lot of the layer.

    ways has for each line its knots in order. A closed lot is told by how many of them it has, for each line.
    """
    found = {}
    for lot in layer:
        for knot in ready_knots(ways, lot):
            found[tuple([many + (line in knot) for line, many in enumerate(lot)])] = True
    return list(found)


def ready_knots(ways, lot):
    """Return the knots that are ready behind a closed lot, which is told as in next_layer."""
    nexts = [way[many] if many < len(way) else () for way, many in zip(ways, lot)]
    return [knot for line, knot in enumerate(nexts)
            if knot and knot[0] == line and all([nexts[other] == knot for other in knot])]
