"""Ways from chart to chart: triangles turned over one after the other."""

from bentlines.charts import check_chart, check_sound, with_signs
from bentlines.errors import BadKind, Degenerate, NotTriangle
from bentlines.links import check_simple, check_sound_simple
from bentlines.numbers import check_one
from bentlines.threes import three_of
from bentlines.triangles import check_triangle, has_triangle, ways_of


def way_to_fan(chart, sign=1):
    """Return the list of a shortest way to the chart with this sign everywhere."""
    check_chart(chart)
    check_one(sign, "sign")
    check_sound_simple(chart)
    return way_to_sign(chart, sign)


def is_way(chart, threes):
    """Return whether the threes are a way from the chart."""
    way = checked_threes(chart, threes)
    return first_stop(ways_of(chart), way) is None


def behind_way(chart, threes):
    """Return the chart to which the way leads."""
    way = checked_threes(chart, threes)
    wrong = first_stop(ways_of(chart), way)
    if wrong is not None:
        raise NotTriangle(wrong)
    return chart_behind(chart, way)


def differ(chart, other):
    """Return in how many signs the two charts differ."""
    check_two(chart, other)
    return count_unlike(chart, other)


def some_way(chart, other):
    """Return the list of a way to the other chart, by the fan or its contrary, whichever makes it shorter."""
    check_two(chart, other)
    sign = 1 if count_both(chart, other, -1) <= count_both(chart, other, 1) else -1
    # A triangle turned over twice is as before, so that the way from the other chart leads to it backward.
    return way_to_sign(chart, sign) + way_to_sign(other, sign)[::-1]


def bounds(chart, other):
    """Return how many threes each way to the other chart has at least, and how many some_way has."""
    check_two(chart, other)
    return (count_unlike(chart, other), min(count_both(chart, other, 1), count_both(chart, other, -1)))


def both_ways(chart, three, other):
    """Return the charts behind the two triangles in this order and in the other; None where there is no such chart."""
    check_chart(chart)
    first = three_of(three, chart.size)
    second = three_of(other, chart.size)
    check_sound_simple(chart)
    ways = ways_of(chart)
    check_triangle(ways, first)
    check_triangle(ways, second)
    return (chart_or_none(chart, [first, second]), chart_or_none(chart, [second, first]))


def checked_threes(chart, threes):
    """Return the list of these threes of a simple chart, each ascending, with all errors due."""
    check_chart(chart)
    if not isinstance(threes, (list, tuple)):
        raise BadKind("threes")
    names = [three_of(three, chart.size) for three in threes]
    check_sound_simple(chart)
    return names


def check_two(chart, other):
    """Raise the error that is due unless these are two simple sound charts of one size."""
    check_chart(chart)
    check_chart(other)
    check_sound(chart)
    check_sound(other)
    check_simple(chart)
    check_simple(other)
    if chart.size != other.size:
        raise Degenerate("size")


def count_unlike(chart, other):
    """Return in how many signs two charts of one size differ."""
    return len([sign for sign, second in zip(chart.signs, other.signs) if sign != second])


def count_both(chart, other, sign):
    """Return how often the sign stands in the two charts together."""
    return chart.signs.count(sign) + other.signs.count(sign)


def way_to_sign(chart, sign):
    """Return the list of a shortest way to the chart with this sign everywhere; nothing is checked."""
    ways = ways_of(chart)
    found = []
    three = triangle_with(ways, -sign)
    # As long as there is another sign, some triangle has it.
    while three is not None:
        found.append(three)
        ways = ways_behind(ways, three)
        three = triangle_with(ways, -sign)
    return found


def triangle_with(ways, sign):
    """Return some triangle with the sign of the chart with these ways, or None."""
    for line, way in enumerate(ways):
        for first, second in zip(way, way[1:]):
            # Of the lines of a three, the least one meets the two others in the order that the sign tells.
            if line < min(first, second) and (first < second) == (sign > 0):
                three = (line, *sorted((first, second)))
                if has_triangle(ways, three):
                    return three
    return None


def ways_behind(ways, three):
    """Return the ways when the triangle is turned over: on each of its lines, the two others change places."""
    return [changed_way(way, [other for other in three if other != line]) if line in three else way
            for line, way in enumerate(ways)]


def changed_way(way, pair):
    """Return the way with the two lines of the pair in each other's places."""
    first, second = pair
    swaps = {first: second, second: first}
    return tuple([swaps.get(line, line) for line in way])


def first_stop(ways, way):
    """Return the first three of the way that is no triangle when it is to be turned over, or None."""
    for three in way:
        if not has_triangle(ways, three):
            return three
        ways = ways_behind(ways, three)
    return None


def chart_behind(chart, way):
    """Return the chart to which the way leads; nothing is checked."""
    odd = [three for three in way if way.count(three) % 2 == 1]
    return with_signs(chart, {three: -chart.lot_sign(three) for three in odd})


def chart_or_none(chart, way):
    """Return the chart to which the way leads, or None if it is no way."""
    if first_stop(ways_of(chart), way) is None:
        return chart_behind(chart, way)
    return None
