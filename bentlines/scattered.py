"""Scattered charts, whose lines do not all cross in one point, and charts near a point."""

from bentlines.charts import Chart, check_chart, check_sound
from bentlines.links import all_knots, knots_of
from bentlines.numbers import check_int, check_one
from bentlines.threes import MOST_LINES, check_line, threes_in


def is_scattered(chart):
    """Return whether the chart is scattered."""
    check_chart(chart)
    check_sound(chart)
    return has_scattered(chart)


def is_near_point(chart):
    """Return whether the chart is near a point."""
    check_chart(chart)
    check_sound(chart)
    return chart.size >= 3 and any([len(knot) == chart.size - 1 for knot in all_knots(chart)])


def near_point(size, line, after):
    """Return the chart in which all other lines are a knot, and the line is above (after 1) or below it (-1)."""
    check_int(size, "size", 3, MOST_LINES)
    check_line(line, size)
    check_one(after, "after")
    return Chart(size, [near_sign(line, after, three) for three in threes_in(list(range(size)))])


def knot_sizes(chart):
    """Return the numbers of lines of all knots, in rising order."""
    return tuple(sorted([len(knot) for knot in knots_of(chart)]))


def plain_knots(chart):
    """Return the knots of two lines, ascending."""
    return tuple([knot for knot in knots_of(chart) if len(knot) == 2])


def has_scattered(chart):
    """Return whether a sound chart is scattered; nothing is checked."""
    # Fewer than three lines have no signs.
    return any([sign != 0 for sign in chart.signs])


def near_sign(line, after, three):
    """Return the sign of an ascending three of the chart near a point."""
    if line not in three:
        return 0
    return after if three[1] == line else -after
