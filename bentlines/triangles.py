"""Triangles of simple charts, and how they are turned over."""

from bentlines.charts import check_chart, with_signs
from bentlines.crossings import lines_above, side_at
from bentlines.errors import NotTriangle
from bentlines.links import check_simple_chart, check_sound_simple
from bentlines.numbers import check_one
from bentlines.rules import levels_on
from bentlines.threes import check_line, three_of


def is_triangle(chart, three):
    """Return whether the three is a triangle."""
    check_chart(chart)
    names = three_of(three, chart.size)
    check_sound_simple(chart)
    return has_triangle(ways_of(chart), names)


def triangles(chart):
    """Return all triangles, ascending."""
    check_simple_chart(chart)
    return triangles_in(ways_of(chart))


def turned_over(chart, three):
    """Return the chart with this triangle turned over."""
    names = checked_triangle(chart, three)
    return with_signs(chart, {names: -chart.lot_sign(names)})


def triangle_place(chart, three):
    """Return the place whose sides are the lines of this triangle."""
    names = checked_triangle(chart, three)
    i, j, k = names
    over = lines_over(chart, names)
    return tuple(sorted([*over, j] if chart.lot_sign(names) > 0 else [*over, i, k]))


def triangles_on(chart, line, side):
    """Return the triangles with the line that lie above it (1) or below it (-1), ascending."""
    check_chart(chart)
    check_line(line, chart.size)
    check_one(side, "side")
    found = [three for three in triangles(chart) if line in three]
    # A triangle lies above a line that is below the meeting of its two other lines.
    return tuple([three for three in found if side_in(chart, three, line) == -side])


def with_sign(chart, sign):
    """Return the triangles with this sign, 1 or -1, ascending."""
    check_chart(chart)
    check_one(sign, "sign")
    return tuple([three for three in triangles(chart) if chart.lot_sign(three) == sign])


def checked_triangle(chart, three):
    """Return a triangle of a simple chart, ascending, with all errors due."""
    check_chart(chart)
    names = three_of(three, chart.size)
    check_sound_simple(chart)
    return check_triangle(ways_of(chart), names)


def check_triangle(ways, three):
    """Return the ascending three if it is a triangle."""
    if not has_triangle(ways, three):
        raise NotTriangle(three)
    return three


def ways_of(chart):
    """Return for each line of a simple chart the others in the order in which it meets them; nothing is checked."""
    return [way_on(chart, line) for line in chart.lines]


def way_on(chart, line):
    """Return the other lines in the order in which the line of a simple chart meets them; nothing is checked."""
    return tuple([level[0] for level in levels_on(chart, line)])


def has_triangle(ways, three):
    """Return whether an ascending three is a triangle of the chart with these ways."""
    i, j, k = three
    return next_to(ways[i], j, k) and next_to(ways[j], i, k) and next_to(ways[k], i, j)


def next_to(way, first, second):
    """Return whether two lines of the way are met next to one another."""
    return abs(way.index(first) - way.index(second)) == 1


def triangles_in(ways):
    """Return all triangles of the chart with these ways, ascending."""
    found = [(line, *sorted(pair)) for line, way in enumerate(ways)
             for pair in zip(way, way[1:]) if line < min(pair)]
    return tuple([three for three in sorted(found) if has_triangle(ways, three)])


def lines_over(chart, three):
    """Return the lines above an ascending triangle; nothing is checked."""
    return tuple([line for line in lines_above(chart, three[:2]) if line not in three])


def side_in(chart, three, line):
    """Return the side of a line of an ascending three at the meeting of the two others; nothing is checked."""
    first, second = [other for other in three if other != line]
    return side_at(chart, (first, second), line)
