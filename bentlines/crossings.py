"""What is above and below the meetings of lines, and the edges that knots go over."""

from bentlines.charts import check_chart, check_sound
from bentlines.errors import BadLine, NotSimple
from bentlines.links import all_knots, check_simple_chart, knot_from, knot_of
from bentlines.numbers import check_int
from bentlines.threes import check_line, pair_of, pairs_in


def side_of(chart, pair, line):
    """Return 1, 0, -1 if the line is above, goes through, is below the meeting of the pair."""
    check_chart(chart)
    names = pair_of(pair, chart.size)
    check_line(line, chart.size)
    if line in names:
        raise BadLine(line)
    check_sound(chart)
    return side_at(chart, names, line)


def above(chart, pair):
    """Return the lot of the lines above the meeting of the pair."""
    check_chart(chart)
    names = pair_of(pair, chart.size)
    check_sound(chart)
    return lines_above(chart, names)


def depth(chart, pair):
    """Return how many lines are above the meeting of the pair."""
    return len(above(chart, pair))


def edges_of(chart, knot):
    """Return the edges that the knot goes over, ascending."""
    check_chart(chart)
    check_sound(chart)
    return knot_edges(chart, knot_from(all_knots(chart), knot))


def edge_of(chart, pair):
    """Return the only edge that the knot of the pair goes over."""
    knot = knot_of(chart, pair)
    if len(knot) > 2:
        raise NotSimple(knot)
    return knot_edges(chart, knot)[0]


def edge_counts(chart):
    """Return for a simple chart 0 and the edge counts of the edges 1 .. n-1."""
    check_simple_chart(chart)
    return simple_counts(chart)


def knots_over(chart, edge):
    """Return the knots that go over the edge, ascending."""
    check_chart(chart)
    check_int(edge, "edge", 1, chart.size - 1)
    check_sound(chart)
    return tuple([knot for knot in all_knots(chart) if edge in knot_edges(chart, knot)])


def side_at(chart, pair, line):
    """Return the side of another line at the meeting of an ascending pair; nothing is checked."""
    first, second = pair
    sign = chart.lot_sign(tuple(sorted([first, second, line])))
    return sign if first < line < second else -sign


def lines_above(chart, pair):
    """Return the lot of the lines above the meeting of an ascending pair; nothing is checked."""
    return tuple([line for line in chart.lines if line not in pair and side_at(chart, pair, line) > 0])


def knot_edges(chart, knot):
    """Return the edges that the knot goes over, ascending; nothing is checked."""
    p = len(lines_above(chart, knot[:2]))
    return tuple(range(p + 1, p + len(knot)))


def edge_order(chart, knot, edge):
    """Return min(h, m-h) if the edge is the h-th one of a knot of m lines, 0 if the knot does not go over it."""
    edges = knot_edges(chart, knot)
    if edge not in edges:
        return 0
    step = edges.index(edge) + 1
    return min(step, len(knot) - step)


def simple_edge(chart, pair):
    """Return the edge that the meeting of an ascending pair of a simple chart goes over; nothing is checked."""
    return len(lines_above(chart, pair)) + 1


def pairs_at(chart, edge):
    """Return the list of the pairs of a simple chart that meet over the edge, ascending; nothing is checked."""
    return [pair for pair in pairs_in(chart.lines) if simple_edge(chart, pair) == edge]


def simple_counts(chart):
    """Return what edge_counts returns, for a simple chart; nothing is checked."""
    edges = [simple_edge(chart, pair) for pair in pairs_in(chart.lines)]
    # No meeting goes over an edge 0, so that the count of line 0 is the 0 in front.
    return tuple([edges.count(edge) for edge in chart.lines])
