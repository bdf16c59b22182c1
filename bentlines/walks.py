"""Walks from place to place, over one side after the other."""

from bentlines.charts import check_chart, check_sound
from bentlines.errors import BadKind
from bentlines.places import check_place
from bentlines.sides import all_sides, is_side
from bentlines.threes import MOST_LINES, check_line, lot_of, unlike


def distance(lot, other):
    """Return the number of unlike lines of two lots of the lines 0 .. 15."""
    return len(unlike(lot_of(lot, MOST_LINES), lot_of(other, MOST_LINES)))


def step_toward(chart, place, other):
    """Return the least side of the place on which it is unlike the other place; None if they are equal."""
    now, goal = checked_places(chart, place, other)
    return next_side(chart, now, goal)


def walk(chart, place, other):
    """Return the list of the lines of a shortest walk from the place to the other place."""
    now, goal = checked_places(chart, place, other)
    return walk_between(chart, now, goal)


def is_walk(chart, place, lines):
    """Return whether the lines are a walk from the place."""
    check_chart(chart)
    now = lot_of(place, chart.size)
    check_lines(lines, chart.size)
    check_sound(chart)
    check_place(chart, now)
    for line in lines:
        if not is_side(chart, now, line):
            return False
        now = unlike(now, (line,))
    return True


def checked_places(chart, place, other):
    """Return two places of a sound chart, with all errors due."""
    check_chart(chart)
    first = lot_of(place, chart.size)
    second = lot_of(other, chart.size)
    check_sound(chart)
    return (check_place(chart, first), check_place(chart, second))


def check_lines(lines, size):
    """Return the list or tuple if each of its entries is a line; a line may occur more than once."""
    if not isinstance(lines, (list, tuple)):
        raise BadKind("lines")
    for line in lines:
        check_line(line, size)
    return lines


def walk_between(chart, place, other):
    """Return what walk returns, for ascending places; nothing is checked."""
    now = place
    lines = []
    while now != other:
        line = next_side(chart, now, other)
        lines.append(line)
        now = unlike(now, (line,))
    return lines


def next_side(chart, place, other):
    """Return the least side of a place on which it is unlike another one; None if they are equal."""
    apart = unlike(place, other)
    for line in all_sides(chart, place):
        if line in apart:
            return line
    return None
