"""Shallow meetings: those with few lines above or below them."""

from bentlines.charts import check_chart
from bentlines.crossings import side_at, simple_counts, simple_edge
from bentlines.links import check_simple_chart, check_sound_simple
from bentlines.numbers import check_int
from bentlines.threes import pairs_in
from bentlines.triangles import way_on


def shallow(chart, depth):
    """Return the number of meetings with fewer than depth lines above or fewer than depth lines below."""
    check_depth(chart, depth, 0)
    return shallow_among(simple_counts(chart), depth)


def shallow_list(chart):
    """Return the shallow numbers for all depths from 0 that are less than half the number of lines."""
    check_simple_chart(chart)
    return shallow_numbers(chart)


def shallow_least(depth):
    """Return the least number of shallow meetings that a chart can have for the depth."""
    check_int(depth, "depth", 0, None)
    return 3 * depth * (depth + 1) // 2


def split_off(chart, depth):
    """Return the three numbers that make the shallow number when line 0 is taken out."""
    check_depth(chart, depth, 1)
    rest = chart.part(chart.lines[1:])
    return (shallow_among(simple_counts(rest), depth - 1), 2 * depth, len(passing_pairs(chart, depth)))


def passing(chart, depth):
    """Return the list of the pairs whose meetings pass at the depth, ascending."""
    check_depth(chart, depth, 1)
    return passing_pairs(chart, depth)


def swept(chart, depth):
    """Return the lot of the first lines that line 0 meets, as many as the depth, and the lot of the last ones."""
    check_depth(chart, depth, 1)
    way = way_on(chart, 0)
    return (tuple(sorted(way[:depth])), tuple(sorted(way[-depth:])))


def check_depth(chart, depth, least):
    """Raise the error that is due unless this is a simple chart and a depth from least to below half its size."""
    check_chart(chart)
    check_int(depth, "depth", least, (chart.size - 1) // 2)
    check_sound_simple(chart)


def shallow_among(counts, depth):
    """Return the shallow number of a chart with these edge counts; nothing is checked."""
    # The edge n-g is the g-th from below, and so it has the index -g.
    return sum([counts[g] + counts[-g] for g in range(1, depth + 1)])


def shallow_numbers(chart):
    """Return what shallow_list returns; nothing is checked."""
    counts = simple_counts(chart)
    return tuple([shallow_among(counts, depth) for depth in range((chart.size + 1) // 2)])


def passing_pairs(chart, depth):
    """Return the pairs whose meetings pass at the depth; nothing is checked."""
    return [pair for pair in pairs_in(chart.lines[1:]) if passes(chart, pair, depth)]


def passes(chart, pair, depth):
    """Return whether the meeting of two lines other than 0 passes at the depth; nothing is checked."""
    # With line 0 in the chart, a meeting below it is one edge further down.
    edge = chart.size - depth if side_at(chart, pair, 0) > 0 else depth
    return simple_edge(chart, pair) == edge
