"""Places: the regions between the lines, each told by the lot of the lines above it."""

from bentlines.charts import check_chart, check_sound
from bentlines.drawings import Drawing
from bentlines.errors import NotPlace
from bentlines.numbers import check_int
from bentlines.threes import check_size, lot_of, threes_in


def wrong_three(chart, lot):
    """Return the least three that is wrong for the lot, or None; the chart need not be sound."""
    check_chart(chart)
    return first_wrong(chart, lot_of(lot, chart.size))


def wrong_count(chart, lot):
    """Return how many threes of sign +, of sign -, of sign 0 are wrong; the chart need not be sound."""
    check_chart(chart)
    names = lot_of(lot, chart.size)
    signs = [chart.lot_sign(three) for three in threes_in(chart.lines) if is_wrong(chart, names, three)]
    return (signs.count(1), signs.count(-1), signs.count(0))


def is_place(chart, lot):
    """Return whether the lot is a place."""
    check_chart(chart)
    names = lot_of(lot, chart.size)
    check_sound(chart)
    return first_wrong(chart, names) is None


def all_places(chart):
    """Yield all places, ascending."""
    yield from places_of(chart)


def endless(size):
    """Return the endless lots of so many lines, ascending."""
    check_size(size)
    lines = tuple(range(size))
    return tuple([lines[:a] for a in range(size + 1)] + [lines[a:] for a in range(1, size)])


def is_endless(size, lot):
    """Return whether the lot, of so many lines, is endless."""
    return lot_of(lot, size) in endless(size)


def level_places(chart, many):
    """Return the places with so many lines, ascending."""
    check_chart(chart)
    check_int(many, "many", 0, chart.size)
    return tuple([place for place in places_of(chart) if len(place) == many])


def checked_place(chart, value):
    """Return a place of a sound chart, with all errors due for these two arguments."""
    check_chart(chart)
    place = lot_of(value, chart.size)
    check_sound(chart)
    return check_place(chart, place)


def check_place(chart, lot):
    """Return the ascending lot if it is a place."""
    three = first_wrong(chart, lot)
    if three is not None:
        raise NotPlace(three)
    return lot


def places_of(chart):
    """Return the list of all places of a chart, which is asked for and must be sound, ascending."""
    # The rows of any one drawing have all places as their highest lines.
    drawing = Drawing.of(chart)
    rows = list(drawing.rows())
    found = {tuple(sorted(row[:j])): True for row in rows for j in range(chart.size + 1)}
    return sorted(found)


def first_wrong(chart, lot):
    """Return the least three that is wrong for the lot, or None; nothing is checked."""
    return wrong_in(chart, lot, chart.lines)


def wrong_in(chart, lot, lines):
    """Return the least three of these ascending lines that is wrong for the lot, or None; nothing is checked."""
    for three in threes_in(lines):
        if is_wrong(chart, lot, three):
            return three
    return None


def is_wrong(chart, lot, three):
    """Return whether an ascending three is wrong for the lot; nothing is checked."""
    a, b, c = [line in lot for line in three]
    sign = chart.lot_sign(three)
    # A three of sign 0 is wrong in both ways.
    return (sign >= 0 and a and c and not b) or (sign <= 0 and b and not a and not c)
