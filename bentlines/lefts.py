"""The knots left of a place, right of it and abreast of it."""

from bentlines.charts import check_chart, check_sound
from bentlines.drawings import Drawing
from bentlines.drawn import row_behind_lot
from bentlines.errors import BadLine, NotPlace
from bentlines.links import all_knots, links_back, with_all_before
from bentlines.places import checked_place, first_wrong, wrong_in
from bentlines.threes import MOST_LINES, check_line, common, lot_of


def left_knots(chart, place):
    """Return the knots left of the place, ascending."""
    return knots_lying(chart, checked_place(chart, place), "left")


def right_knots(chart, place):
    """Return the knots right of the place, ascending."""
    return knots_lying(chart, checked_place(chart, place), "right")


def abreast(chart, place):
    """Return the knots abreast of the place, ascending."""
    return knots_lying(chart, checked_place(chart, place), "abreast")


def share_of(knot, place):
    """Return how many lines two lots of the lines 0 .. 15 have in common."""
    lot = lot_of(knot, MOST_LINES)
    return len(common(lot, lot_of(place, MOST_LINES)))


def order_through(chart, place):
    """Return all knots in an order: first the left knots and all knots before them, then the others."""
    lot = knots_up_to(chart, checked_place(chart, place))
    order = Drawing.of(chart).knots()
    return tuple([knot for knot in order if knot in lot] + [knot for knot in order if knot not in lot])


def row_at(chart, place):
    """Return the row behind the left knots and all knots before them."""
    return row_behind_lot(chart, knots_up_to(chart, checked_place(chart, place)))


def split_by(chart, place, line):
    """Return whether the lot with the line is a place, and whether the lot is one.

    place is a lot of other lines for which no three without the line is wrong.
    """
    check_chart(chart)
    lot = lot_of(place, chart.size)
    check_line(line, chart.size)
    if line in lot:
        raise BadLine(line)
    check_sound(chart)
    three = wrong_in(chart, lot, [other for other in chart.lines if other != line])
    if three is not None:
        raise NotPlace(three)
    return (first_wrong(chart, (*lot, line)) is None, first_wrong(chart, lot) is None)


def lies(knot, place):
    """Return "left", "right" or "abreast", as the knot is to the place; nothing is checked."""
    if len(common(knot, place)) in (0, len(knot)):
        return "abreast"
    # The lines that a knot shares with a place are its last or its first ones.
    return "left" if knot[-1] in place else "right"


def knots_lying(chart, place, word):
    """Return the knots that lie to the place as the word tells, ascending; nothing is checked."""
    return tuple([knot for knot in all_knots(chart) if lies(knot, place) == word])


def knots_up_to(chart, place):
    """Return the left knots of the place and all knots before them, ascending; nothing is checked."""
    return with_all_before(links_back(chart), knots_lying(chart, place, "left"))
