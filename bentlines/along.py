"""What is met along a line over one edge, and which lines stand at one stand."""

from bentlines.charts import check_chart
from bentlines.crossings import simple_edge
from bentlines.drawings import Drawing
from bentlines.links import check_sound_simple, knots_on
from bentlines.numbers import check_int
from bentlines.threes import check_line, check_size


def along(chart, line, edge):
    """Return the pairs (other, way) of the meetings of the line over the edge, from left to right.

    The way is 1 if the line goes down over the edge, -1 if it goes up.
    """
    check_chart(chart)
    check_line(line, chart.size)
    check_int(edge, "edge", 1, chart.size - 1)
    check_sound_simple(chart)
    over = [pair for pair in knots_on(chart, line) if simple_edge(chart, pair) == edge]
    return tuple([(second, 1) if first == line else (first, -1) for first, second in over])


def told_along(size, line, edge):
    """Return how many more times the line goes down over the edge than up."""
    check_size(size)
    check_line(line, size)
    check_int(edge, "edge", 1, size - 1)
    return (line < edge) - (size - 1 - line < edge)


def level_line(chart, level):
    """Return the lines at the stand, from left to right; a line that stays is told once."""
    check_chart(chart)
    check_int(level, "level", 0, chart.size - 1)
    drawing = Drawing.of(chart)
    found = []
    for row in drawing.rows():
        if found[-1:] != [row[level]]:
            found.append(row[level])
    return tuple(found)
