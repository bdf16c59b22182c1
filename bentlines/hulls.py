"""Hulls of points: the lines that stand highest or lowest somewhere, and the layers below them."""

from bentlines.crossings import pairs_at, simple_edge
from bentlines.links import check_simple_chart
from bentlines.threes import pairs_in


def hull(chart):
    """Return the lot of the points on the hull."""
    check_simple_chart(chart)
    return hull_of(chart)


def hull_edges(chart):
    """Return the chords with no point below them or no point above them, ascending."""
    check_simple_chart(chart)
    return tuple([pair for pair in pairs_in(chart.lines) if simple_edge(chart, pair) in (1, chart.size - 1)])


def lower_hull(chart):
    """Return the points of the lower hull from left to right."""
    check_simple_chart(chart)
    return points_at(chart, 1)


def upper_hull(chart):
    """Return the points of the upper hull from left to right."""
    check_simple_chart(chart)
    return points_at(chart, chart.size - 1)


def layers(chart):
    """Return the list of the layers, the hull first."""
    check_simple_chart(chart)
    found = []
    names = chart.lines
    while names:
        layer = tuple([names[at] for at in hull_of(chart.part(names))])
        found.append(layer)
        names = tuple([name for name in names if name not in layer])
    return found


def points_at(chart, edge):
    """Return the points of the chords at the first or the last edge, ascending; nothing is checked."""
    pairs = pairs_at(chart, edge)
    # The only line of a chart has no chord.
    return tuple([line for line in chart.lines if chart.size == 1 or any([line in pair for pair in pairs])])


def hull_of(chart):
    """Return the points on the hull, ascending; nothing is checked."""
    points = points_at(chart, 1) + points_at(chart, chart.size - 1)
    return tuple([line for line in chart.lines if line in points])
