"""Zones: the places along a line of a simple chart, and their sides."""

from bentlines.charts import check_chart
from bentlines.errors import BadKind
from bentlines.lastlines import lots_through, name_beside, old_name
from bentlines.links import check_sound_simple
from bentlines.numbers import check_int
from bentlines.sides import all_sides
from bentlines.threes import MOST_LINES, check_line, common
from bentlines.triangles import way_on


def zone(chart, line):
    """Return the lots of the zone of the line, in the order in which they lie along it."""
    check_zone(chart, line)
    return zone_lots(chart, line)


def zone_sides(chart, line):
    """Return for each lot of the zone its sides as a place of the chart without the line."""
    check_zone(chart, line)
    return sides_along(chart, line)


def zone_sum(chart, line):
    """Return how many of these sides the line has met ahead of their lot, and how many there are in all."""
    check_zone(chart, line)
    found = sides_along(chart, line)
    way = way_on(chart, line)
    behind = sum([len(common(way[:at], sides)) for at, sides in enumerate(found)])
    return (behind, sum([len(sides) for sides in found]))


def zone_most(size):
    """Return what the two numbers of zone_sum are at most for charts of so many lines."""
    check_int(size, "size", 2, MOST_LINES)
    if size == 2:
        return (1, 2)
    return (3 * size - 6, 6 * size - 12)


def check_zone(chart, line):
    """Raise the error that is due unless this is a line of a simple chart of two lines or more."""
    check_chart(chart)
    check_line(line, chart.size)
    check_sound_simple(chart)
    if chart.size == 1:
        raise BadKind("lot")


def zone_lots(chart, line):
    """Return what zone returns; nothing is checked."""
    # What lies along an order does not depend on whether the names are old ones or those beside the line.
    return lots_through(line, way_on(chart, line))


def sides_along(chart, line):
    """Return what zone_sides returns; nothing is checked."""
    rest = chart.part([other for other in chart.lines if other != line])
    places = [tuple([old_name(other, line) for other in lot]) for lot in zone_lots(chart, line)]
    return tuple([tuple([name_beside(side, line) for side in all_sides(rest, place)]) for place in places])
