"""Doors of places: how often lines above a place change with lines below it over an edge."""

from bentlines.charts import check_chart, check_sound
from bentlines.crossings import knot_edges
from bentlines.errors import BadNumber
from bentlines.lefts import lies
from bentlines.links import all_knots, knot_from
from bentlines.numbers import check_int
from bentlines.places import check_place, checked_place
from bentlines.threes import MOST_LINES, check_line, common, lot_of


def weight(step, share, many):
    """Return the weight of a step, a share and a number of lines."""
    check_int(step, "step", None, None)
    check_int(share, "share", 0, None)
    check_int(many, "many", 1, None)
    if share > many:
        raise BadNumber("share")
    return weight_of(step, share, many)


def told_left(size, lot, edge):
    """Return the left doors that the lot has at the edge wherever it is a place."""
    names = lot_of(lot, size)
    check_int(edge, "edge", 1, size - 1)
    return doors_told(names, edge, tuple(range(edge)))


def told_right(size, lot, edge):
    """Return the right doors that the lot has at the edge wherever it is a place."""
    names = lot_of(lot, size)
    check_int(edge, "edge", 1, size - 1)
    return doors_told(names, edge, tuple(range(size - edge, size)))


def left_doors(chart, place, edge):
    """Return the left doors of the place at the edge."""
    return sum([told[1] for told in door_list(chart, place, edge) if told[2] == "left"])


def right_doors(chart, place, edge):
    """Return the right doors of the place at the edge."""
    return sum([told[1] for told in door_list(chart, place, edge) if told[2] == "right"])


def door_list(chart, place, edge):
    """Return the list of (knot, weight, side) of all knots that weigh more than 0 at the edge."""
    check_chart(chart)
    lot = lot_of(place, chart.size)
    check_int(edge, "edge", 1, chart.size - 1)
    check_sound(chart)
    check_place(chart, lot)
    weighed = [(knot, knot_weight(chart, knot, lot, edge), lies(knot, lot)) for knot in all_knots(chart)]
    return [told for told in weighed if told[1] > 0]


def door_table(chart, place):
    """Return the pairs of the left and the right doors of the place, for the edges 1 .. n-1."""
    lot = checked_place(chart, place)
    left = doors_lying(chart, lot, "left")
    return tuple(zip(left, doors_lying(chart, lot, "right")))


def weight_of(step, share, many):
    """Return what weight returns; nothing is checked."""
    if not 0 < step < many:
        return 0
    return min(step, share, many - step, many - share)


def knot_weight(chart, knot, place, edge):
    """Return what the knot weighs at the edge for the place; nothing is checked."""
    # Edges are counted from 1, within the knot as well.
    step = edge - knot_edges(chart, knot)[0] + 1
    return weight_of(step, len(common(knot, place)), len(knot))


def doors_told(lot, edge, ends):
    """Return min(j, edge) less how many of j lines are among the lines at one end of the first row."""
    return min(len(lot), edge) - len(common(lot, ends))


def doors_lying(chart, place, word):
    """Return the sums of what the knots weigh that lie so to the place, for the edges 1 .. n-1."""
    doors = [0] * chart.size
    for knot in all_knots(chart):
        if lies(knot, place) == word:
            share = len(common(knot, place))
            for at, edge in enumerate(knot_edges(chart, knot)):
                doors[edge] = doors[edge] + weight_of(at + 1, share, len(knot))
    return doors[1:]


class Weight:
    """Tells what the knots of charts weigh for one lot, as a place of the chart."""

    def __init__(self, lot):
        self.lot = lot_of(lot, MOST_LINES)

    def __call__(self, chart, knot, edge):
        """Return what the knot of the chart weighs at the edge."""
        check_chart(chart)
        for line in self.lot:
            check_line(line, chart.size)
        check_int(edge, "edge", 1, chart.size - 1)
        check_sound(chart)
        check_place(chart, self.lot)
        return knot_weight(chart, knot_from(all_knots(chart), knot), self.lot, edge)
