"""Middle chords: those with as many points above them as below."""

from bentlines.charts import check_chart
from bentlines.crossings import pairs_at
from bentlines.errors import BadNumber
from bentlines.fours import chords_cross
from bentlines.links import check_simple_chart
from bentlines.places import check_place
from bentlines.threes import check_line, lot_of, pairs_in


def middle_chords(chart):
    """Return the middle chords, ascending."""
    return tuple(chords_of(checked_even(chart)))


def degrees(chart):
    """Return for each point how many middle chords have it."""
    return degrees_of(checked_even(chart))


def partners(chart, point):
    """Return the lesser and the greater partners of the point, each ascending."""
    check_chart(chart)
    check_line(point, chart.size)
    chords = chords_of(checked_even(chart))
    return (tuple([first for first, second in chords if second == point]),
            tuple([second for first, second in chords if first == point]))


def crossing_pairs(chart):
    """Return the crossing pairs of middle chords, ascending."""
    return tuple(crossings_of(checked_even(chart)))


def balance_of(chart):
    """Return the sum of the squares of all degrees, the number of crossing pairs and n * (n - 1)."""
    checked_even(chart)
    squares = sum([many * many for many in degrees_of(chart)])
    return (squares, len(crossings_of(chart)), chart.size * (chart.size - 1))


def parted(chart, place):
    """Return the middle chords with one end in the place and one outside it, ascending."""
    check_chart(chart)
    lot = lot_of(place, chart.size)
    check_place(checked_even(chart), lot)
    return tuple([chord for chord in chords_of(chart) if (chord[0] in lot) != (chord[1] in lot)])


def checked_even(chart):
    """Return the chart if it is a simple one of evenly many lines."""
    check_simple_chart(chart)
    if chart.size % 2 == 1:
        raise BadNumber("size")
    return chart


def chords_of(chart):
    """Return the list of the middle chords, ascending; nothing is checked."""
    return pairs_at(chart, chart.size // 2)


def degrees_of(chart):
    """Return what degrees returns; nothing is checked."""
    ends = [point for chord in chords_of(chart) for point in chord]
    return tuple([ends.count(point) for point in chart.lines])


def crossings_of(chart):
    """Return the list of the crossing pairs, ascending; nothing is checked."""
    return [(first, second) for first, second in pairs_in(chords_of(chart)) if chords_cross(chart, first, second)]
