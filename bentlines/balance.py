"""Tight charts, and what turned triangles change about middle chords that cross."""

from math import isqrt

from bentlines.charts import check_chart
from bentlines.crossings import simple_edge
from bentlines.middles import checked_even, degrees_of
from bentlines.numbers import check_int
from bentlines.threes import three_of
from bentlines.triangles import check_triangle, lines_over, ways_of


def middle_change(chart, three):
    """Return by how much the number of crossing pairs grows when the triangle is turned over."""
    check_chart(chart)
    names = three_of(three, chart.size)
    checked_even(chart)
    check_triangle(ways_of(chart), names)
    s = len(lines_over(chart, names)) + 1
    if chart.size // 2 not in (s, s + 1):
        return 0
    a, b, _ = names
    degree = degrees_of(chart)[b]
    # The meetings of b with a and c go over one of the edges s and s + 1, that of a and c over the other one.
    if simple_edge(chart, (a, b)) == chart.size // 2:
        return (degree - 1) // 2
    return -((degree + 1) // 2)


def is_tight(chart):
    """Return whether each point has just one middle chord."""
    return all([many == 1 for many in degrees_of(checked_even(chart))])


def middle_bound(size):
    """Return the greatest integer h with 4 * h * h <= size * size * (size - 1)."""
    check_int(size, "size", 1, None)
    return isqrt(size * size * (size - 1) // 4)
