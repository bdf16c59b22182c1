"""Ends: the knots that can be turned first and last."""

from bentlines.charts import check_chart, check_sound
from bentlines.links import all_knots, knots_on
from bentlines.threes import check_line


def first_on(chart, line):
    """Return the knot that the line meets first; None if the chart has one line."""
    return knot_met(chart, line, 0)


def last_on(chart, line):
    """Return the knot that the line meets last; None if the chart has one line."""
    return knot_met(chart, line, -1)


def first_knots(chart):
    """Return the first knots, ascending."""
    return end_knots(chart, 0)


def last_knots(chart):
    """Return the last knots, ascending."""
    return end_knots(chart, -1)


def knot_met(chart, line, at):
    """Return the knot with the index at, 0 or -1, among those of the line; None if there is none."""
    check_chart(chart)
    check_line(line, chart.size)
    check_sound(chart)
    way = knots_on(chart, line)
    return way[at] if way else None


def end_knots(chart, at):
    """Return the knots that have the index at, 0 or -1, on each of their lines, ascending."""
    check_chart(chart)
    check_sound(chart)
    ways = [knots_on(chart, line) for line in chart.lines]
    return tuple([knot for knot in all_knots(chart) if all([ways[line][at] == knot for line in knot])])
