"""Loosenings: crossings of many lines in one point pulled apart."""

from bentlines.charts import Chart, check_chart, check_sound, with_signs
from bentlines.errors import TooMany
from bentlines.links import all_knots, check_sound_simple, knot_from
from bentlines.numbers import check_int, check_one
from bentlines.threes import threes_in

# How many simple sound charts there are of 1, 2, .. lines.
SIMPLE_COUNTS = (1, 1, 2, 8, 62)
MOST_IN_KNOT = 5
MOST_LOOSENINGS = 5000


def simple_count(size):
    """Return the number of simple sound charts of 1 to 5 lines."""
    return SIMPLE_COUNTS[check_int(size, "size", 1, MOST_IN_KNOT) - 1]


def loosened(chart, knot, signs):
    """Return the chart in which the threes of the knot, in their order, have these signs."""
    check_chart(chart)
    check_sound(chart)
    names = knot_from(all_knots(chart), knot)
    part = Chart(len(names), signs)
    check_sound_simple(part)
    return with_signs(chart, dict(zip(threes_in(names), part.signs)))


def count_loosenings(chart):
    """Return how many loosenings the chart has."""
    check_chart(chart)
    check_sound(chart)
    return count_ways(all_knots(chart))


def loosenings(chart):
    """Yield all loosenings, in ascending order of their signs."""
    check_chart(chart)
    check_sound(chart)
    knots = [knot for knot in all_knots(chart) if len(knot) > 2]
    if count_ways(knots) > MOST_LOOSENINGS:
        raise TooMany("loosenings")
    # All loosenings have the same signs elsewhere, so that these threes decide about the order.
    free = sorted([three for knot in knots for three in threes_in(knot)])
    for signs in sorted([tuple([way[three] for three in free]) for way in ways_to_loosen(knots)]):
        yield with_signs(chart, dict(zip(free, signs)))


def whole_loosened(chart, sign):
    """Return the chart in which each 0 is replaced by the sign, 1 or -1."""
    check_chart(chart)
    check_one(sign, "sign")
    check_sound(chart)
    return Chart(chart.size, [sign if old == 0 else old for old in chart.signs])


def count_ways(knots):
    """Return in how many ways these knots can be loosened."""
    if not all([len(knot) <= MOST_IN_KNOT for knot in knots]):
        raise TooMany("loosenings")
    many = 1
    for knot in knots:
        many = many * SIMPLE_COUNTS[len(knot) - 1]
    return many


def ways_to_loosen(knots):
    """Return all ways to loosen the knots; each is a dict of the signs of their threes."""
    ways = [{}]
    for knot in knots:
        free = threes_in(knot)
        told = [dict(zip(free, signs)) for signs in simple_signs(len(knot))]
        ways = [{**way, **more} for way in ways for more in told]
    return ways


def simple_signs(size):
    """Return the signs of all simple sound charts of so many lines, five at the most."""
    rows = [()]
    for _ in threes_in(list(range(size))):
        rows = [(*row, sign) for row in rows for sign in (-1, 1)]
    return [row for row in rows if Chart(size, row).sound]
