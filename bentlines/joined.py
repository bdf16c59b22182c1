"""Joined places of scattered charts: opposite endless places are one."""

from bentlines.charts import check_chart, check_sound
from bentlines.errors import BadKind, Together
from bentlines.links import all_knots
from bentlines.places import endless, places_of
from bentlines.scattered import has_scattered
from bentlines.sides import all_sides
from bentlines.threes import lot_of


def opposite(size, place):
    """Return the opposite of an endless place of so many lines."""
    lot = lot_of(place, size)
    if lot not in endless(size):
        raise BadKind("place")
    return other_lines(size, lot)


def joined_places(chart):
    """Return the list of the joined places, ascending, each as a tuple of one or two lots."""
    check_scattered(chart)
    return joined_in(chart)


def joined_sides(chart, joined):
    """Return the number of sides of a joined place."""
    check_scattered(chart)
    if joined not in joined_in(chart):
        raise BadKind("joined")
    return count_sides(chart, joined)


def joined_sum(chart):
    """Return the number of plain knots, told by the greater knots and the joined places."""
    check_scattered(chart)
    knots = [len(knot) for knot in all_knots(chart)]
    return (3 + sum([many - 3 for many in knots if many >= 4])
            + sum([count_sides(chart, joined) - 3 for joined in joined_in(chart)]))


def check_scattered(chart):
    """Raise the error that is due unless this is a scattered chart."""
    check_chart(chart)
    check_sound(chart)
    if not has_scattered(chart):
        raise Together()


def other_lines(size, lot):
    """Return the lines of so many that the lot lacks, ascending."""
    return tuple([line for line in range(size) if line not in lot])


def joined_in(chart):
    """Return what joined_places returns; nothing is checked."""
    ends = endless(chart.size)
    bounded = [(place,) for place in places_of(chart) if place not in ends]
    pairs = [(place, other_lines(chart.size, place)) for place in ends]
    return sorted(bounded + [pair for pair in pairs if pair[0] < pair[1]])


def count_sides(chart, joined):
    """Return the number of sides of a joined place; nothing is checked."""
    # Two opposite places have their two endless sides in common.
    return sum([len(all_sides(chart, place)) for place in joined]) - 2 * (len(joined) - 1)
