"""Sides and corners of places, and the places across their sides."""

from bentlines.charts import check_chart, check_sound
from bentlines.errors import Degenerate
from bentlines.links import all_knots
from bentlines.places import check_place, checked_place, endless, is_wrong
from bentlines.threes import check_line, lot_of, pairs_in, unlike


def upper_sides(chart, place):
    """Return the upper sides of the place from left to right."""
    return uppers(chart, checked_place(chart, place))


def lower_sides(chart, place):
    """Return the lower sides of the place from left to right."""
    return lowers(chart, checked_place(chart, place))


def sides(chart, place):
    """Return the lot of all sides of the place."""
    return all_sides(chart, checked_place(chart, place))


def left_corner(chart, place):
    """Return the first upper and the first lower side of the place, or None if there is no left corner."""
    lot = checked_place(chart, place)
    if lot == chart.lines[:len(lot)]:
        return None
    return (uppers(chart, lot)[0], lowers(chart, lot)[0])


def right_corner(chart, place):
    """Return the last upper and the last lower side of the place, or None if there is no right corner."""
    lot = checked_place(chart, place)
    if lot == chart.lines[chart.size - len(lot):]:
        return None
    return (uppers(chart, lot)[-1], lowers(chart, lot)[-1])


def is_bounded(chart, place):
    """Return whether the place is bounded."""
    lot = checked_place(chart, place)
    return lot not in endless(chart.size)


def across(chart, place, line):
    """Return the place across a side of the place."""
    check_chart(chart)
    lot = lot_of(place, chart.size)
    check_line(line, chart.size)
    check_sound(chart)
    check_place(chart, lot)
    if not is_side(chart, lot, line):
        raise Degenerate("side")
    return unlike(lot, (line,))


def side_sum(chart):
    """Return how many sides all places have together."""
    check_chart(chart)
    check_sound(chart)
    return 2 * chart.size + 2 * sum([len(knot) for knot in all_knots(chart)])


def uppers(chart, place):
    """Return the upper sides of an ascending place; nothing is checked."""
    return tuple([line for line in place[::-1] if is_side(chart, place, line)])


def lowers(chart, place):
    """Return the lower sides of an ascending place; nothing is checked."""
    return tuple([line for line in chart.lines if line not in place and is_side(chart, place, line)])


def all_sides(chart, place):
    """Return the sides of an ascending place, ascending; nothing is checked."""
    return tuple([line for line in chart.lines if is_side(chart, place, line)])


def is_side(chart, place, line):
    """Return whether the line is a side of an ascending place; nothing is checked."""
    beyond = unlike(place, (line,))
    # A three without the line stays as it is, that is not wrong.
    changed = [tuple(sorted([line, *pair])) for pair in pairs_in(chart.lines) if line not in pair]
    return not any([is_wrong(chart, beyond, three) for three in changed])
