"""Points within three other points."""

from bentlines.charts import check_chart
from bentlines.errors import BadLine
from bentlines.links import check_simple_chart, check_sound_simple
from bentlines.numbers import choose
from bentlines.threes import check_line, three_of, threes_in


def within(chart, point, three):
    """Return whether the point is within the three others."""
    check_chart(chart)
    check_line(point, chart.size)
    names = three_of(three, chart.size)
    if point in names:
        raise BadLine(point)
    check_sound_simple(chart)
    return is_within(chart, point, names)


def holding(chart, point):
    """Return the threes that the point is within, ascending."""
    check_chart(chart)
    check_line(point, chart.size)
    check_sound_simple(chart)
    others = [line for line in chart.lines if line != point]
    return tuple([three for three in threes_in(others) if is_within(chart, point, three)])


def inside_count(chart, point):
    """Return how many threes the point is within."""
    return len(holding(chart, point))


def left_of(chart, point, other):
    """Return how many points are to the left of the way from the point to the other one."""
    check_chart(chart)
    check_line(point, chart.size)
    check_line(other, chart.size)
    if other == point:
        raise BadLine(other)
    check_sound_simple(chart)
    return count_left(chart, point, other)


def inside_told(chart, point):
    """Return how many threes the point is within, told by the points to the left of the ways from it."""
    check_chart(chart)
    check_line(point, chart.size)
    check_sound_simple(chart)
    lefts = [count_left(chart, point, other) for other in chart.lines if other != point]
    return choose(chart.size - 1, 3) - sum([choose(many, 2) for many in lefts])


def empty_threes(chart):
    """Return the threes that no point is within, ascending."""
    check_simple_chart(chart)
    return tuple([three for three in threes_in(chart.lines) if is_empty(chart, three)])


def is_within(chart, point, three):
    """Return whether the point is within three others; nothing is checked."""
    a, b, c = three
    return chart.sign((point, a, b)) == chart.sign((point, b, c)) == chart.sign((point, c, a))


def is_empty(chart, three):
    """Return whether no other point is within the three; nothing is checked."""
    return not any([is_within(chart, point, three) for point in chart.lines if point not in three])


def count_left(chart, point, other):
    """Return what left_of returns; nothing is checked."""
    ends = (point, other)
    return len([line for line in chart.lines if line not in ends and chart.sign((*ends, line)) > 0])
