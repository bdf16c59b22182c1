"""Closing sides of places, and the stretches of lines that they are."""

from bentlines.charts import check_chart
from bentlines.crossings import side_at
from bentlines.errors import BadKind, BadNumber
from bentlines.links import check_simple_chart, check_sound_simple
from bentlines.numbers import is_int
from bentlines.places import check_place, endless, places_of
from bentlines.sides import all_sides, lowers, uppers
from bentlines.threes import check_line, lot_of
from bentlines.triangles import way_on


def closing_sides(chart, place):
    """Return the lot of the closing sides of the place."""
    check_chart(chart)
    lot = lot_of(place, chart.size)
    check_sound_simple(chart)
    return closings_of(chart, check_place(chart, lot))


def closing_by_names(upper, lower):
    """Return the lot of the closing sides of a bounded place with these upper and lower sides."""
    check_names(upper, "upper", -1)
    check_names(lower, "lower", 1)
    if len(upper) + len(lower) < 3 or any([name in lower for name in upper]):
        raise BadKind("sides")
    if upper[0] <= lower[0] or upper[-1] >= lower[-1]:
        raise BadKind("sides")
    return tuple(sorted(closing_in(upper, lower, 1) + closing_in(lower, upper, -1)))


def triangle_sum(chart):
    """Return n - 2 and, for each bounded place with five sides or more, 2 less the number of its closing sides."""
    check_simple_chart(chart)
    if chart.size < 3:
        raise BadNumber("size")
    total = chart.size - 2
    for place in places_of(chart):
        if len(all_sides(chart, place)) >= 5 and place not in endless(chart.size):
            total = total + 2 - len(closings_of(chart, place))
    return total


def stretches(chart, line):
    """Return the stretches of the line in the order met."""
    check_chart(chart)
    check_line(line, chart.size)
    check_sound_simple(chart)
    return stretches_on(chart, line)


def closing_place(chart, line, stretch):
    """Return the place for which this stretch of the line is a closing side."""
    check_chart(chart)
    check_line(line, chart.size)
    if not isinstance(stretch, (list, tuple)) or len(stretch) != 2 or not all([is_int(name) for name in stretch]):
        raise BadKind("stretch")
    check_sound_simple(chart)
    if tuple(stretch) not in stretches_on(chart, line):
        raise BadKind("stretch")
    way = way_on(chart, line)
    over = lines_over_way(line, way, way.index(stretch[0]) + 1)
    # The place is on that side of the line on which the two others meet.
    below = side_at(chart, tuple(sorted(stretch)), line) > 0
    return tuple(sorted([*over, line] if below else over))


def check_names(value, word, way):
    """Raise BadKind unless this is a list or tuple of integers, at least one, that rise (way 1) or fall (way -1)."""
    if not isinstance(value, (list, tuple)) or not value or not all([is_int(name) for name in value]):
        raise BadKind(word)
    if not all([(second - first) * way > 0 for first, second in zip(value, value[1:])]):
        raise BadKind(word)


def closing_in(row, other, way):
    """Return the list of the closing sides in one row; way is 1 for the upper row, -1 for the lower one."""
    if len(row) == 1:
        return [row[0]]
    found = []
    if (other[0] - row[1]) * way > 0:
        found.append(row[0])
    if (row[-2] - other[-1]) * way > 0:
        found.append(row[-1])
    return found


def closings_of(chart, place):
    """Return the closing sides of an ascending place, ascending; nothing is checked."""
    if place in endless(chart.size):
        return ()
    around = uppers(chart, place) + lowers(chart, place)[::-1]
    pairs = [tuple(sorted(pair)) for pair in zip(around[-1:] + around[:-1], around[1:] + around[:1])]
    # An upper side is above the meeting of its neighbours if they meet on the place's side of it.
    return tuple(sorted([line for line, pair in zip(around, pairs)
                         if (side_at(chart, pair, line) > 0) == (line in place)]))


def stretches_on(chart, line):
    """Return the stretches of a line of a simple chart; nothing is checked."""
    way = way_on(chart, line)
    return tuple(zip(way, way[1:]))


def lines_over_way(line, way, many):
    """Return the list of the lines above a line when it has met the first so many of its way."""
    return [other for at, other in enumerate(way) if (other < line) == (at >= many)]
