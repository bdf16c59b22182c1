"""Shifts: the lines of a first knot named anew, so that it becomes a last knot."""

from bentlines.charts import Chart, check_chart, check_sound
from bentlines.drawings import check_drawing
from bentlines.ends import first_knots, last_knots
from bentlines.errors import BadKind, NotReady
from bentlines.lastlines import order_from
from bentlines.links import all_knots, knot_from
from bentlines.numbers import is_int
from bentlines.threes import check_line, check_size, threes_in


def shifted(chart, knot):
    """Return the chart shifted at a first knot."""
    lines = checked_knot(chart, knot)
    if lines not in first_knots(chart):
        raise NotReady(lines)
    return renamed(chart, lines)


def shifted_back(chart, knot):
    """Return the chart shifted back at a last knot."""
    lines = checked_knot(chart, knot)
    if lines not in last_knots(chart):
        raise NotReady(lines)
    return renamed(chart, lines)


def new_name(size, knot, line):
    """Return the name that the line has behind a shift at this knot."""
    check_size(size)
    lines = neighbours(knot, size)
    check_line(line, size)
    return turned_name(lines, line)


def all_shifts(drawing):
    """Return the list of the charts of the points read along each row of the drawing."""
    check_drawing(drawing)
    chart = drawing.chart()
    return [Chart(chart.size, signs_along(chart, row)) for row in drawing.rows()]


def point_signs(chart, names):
    """Return the signs of the threes of the names, in the order in which they stand."""
    check_chart(chart)
    order = order_from(names, chart.size, "names")
    check_sound(chart)
    return tuple(signs_along(chart, order))


def checked_knot(chart, knot):
    """Return a knot of a sound chart, ascending, with all errors due."""
    check_chart(chart)
    check_sound(chart)
    return knot_from(all_knots(chart), knot)


def neighbours(value, size):
    """Return the ascending tuple of two or more lines that are neighbours by name."""
    if not isinstance(value, (list, tuple)) or len(value) < 2 or not all([is_int(line) for line in value]):
        raise BadKind("knot")
    lines = tuple(sorted(value))
    first, last = lines[0], lines[-1]
    if first < 0 or last >= size or lines != tuple(range(first, last + 1)):
        raise BadKind("knot")
    return lines


def turned_name(lines, line):
    """Return the name of the line when these neighbours have their names in the opposite order."""
    return lines[0] + lines[-1] - line if line in lines else line


def renamed(chart, lines):
    """Return the chart in which these neighbours have their names in the opposite order."""
    # Named so twice, all lines have their old names again.
    return Chart(chart.size, signs_along(chart, [turned_name(lines, line) for line in chart.lines]))


def signs_along(chart, names):
    """Return the list of the signs of the threes of the names, in the order in which they stand."""
    return [chart.sign(three) for three in threes_in(names)]
