"""What goes over one edge, the knots of one line, and how few steps there can be."""

from bentlines.charts import check_chart, check_sound
from bentlines.crossings import edge_order
from bentlines.links import all_knots, knots_on
from bentlines.numbers import check_int
from bentlines.threes import check_line, check_size


def crossing_sum(chart, edge):
    """Return the sum of min(h, m-h) over the knots that go over the edge: m lines, and the edge the h-th one."""
    check_chart(chart)
    check_int(edge, "edge", 1, chart.size - 1)
    check_sound(chart)
    return sum([edge_order(chart, knot, edge) for knot in all_knots(chart)])


def line_knots(chart, line):
    """Return the knots that the line is in, in the order in which it meets them."""
    check_chart(chart)
    check_line(line, chart.size)
    check_sound(chart)
    return knots_on(chart, line)


def least_steps(size):
    """Return how many steps a scattered chart of so many lines has at least."""
    return 2 * (check_size(size) // 2)
