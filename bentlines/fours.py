"""Fours of points: convex ones and ones with an inner point; chords that cross."""

from bentlines.charts import check_chart, signs_of_four
from bentlines.crossings import side_at
from bentlines.links import check_sound_simple
from bentlines.threes import four_of, lot_of_many, pair_of


def is_convex(chart, four):
    """Return whether the four is convex."""
    return convex_row(signs_of_four(chart, checked_four(chart, four)))


def inner_point(chart, four):
    """Return the point that is within the three others, or None if the four is convex."""
    names = checked_four(chart, four)
    row = signs_of_four(chart, names)
    if convex_row(row):
        return None
    return names[1] if row[0] != row[1] else names[2]


def crossing_chords(chart, four):
    """Return the two chords that cross, or None if the four is not convex."""
    names = checked_four(chart, four)
    row = signs_of_four(chart, names)
    if not convex_row(row):
        return None
    i, j, k, m = names
    return ((i, k), (j, m)) if row[0] == row[3] else ((i, m), (j, k))


def parts_ends(chart, pair, other):
    """Return whether the chord pair parts the two points of other."""
    first, second = checked_pairs(chart, pair, other)
    return has_parted(chart, first, second)


def cross(chart, pair, other):
    """Return whether the two chords cross."""
    first, second = checked_pairs(chart, pair, other)
    return chords_cross(chart, first, second)


def checked_four(chart, four):
    """Return four lines of a simple chart, ascending, with all errors due."""
    check_chart(chart)
    names = four_of(four, chart.size)
    check_sound_simple(chart)
    return names


def checked_pairs(chart, pair, other):
    """Return two pairs of lines of a simple chart, ascending, with all errors due."""
    check_chart(chart)
    first = pair_of(pair, chart.size)
    second = lot_of_many(other, chart.size, 2, "other")
    check_sound_simple(chart)
    return (first, second)


def convex_row(row):
    """Return whether a four with this good row without 0 is convex: whether the product of its signs is 1."""
    return row.count(-1) % 2 == 0


def has_parted(chart, pair, other):
    """Return whether the chord of an ascending pair parts two points; nothing is checked."""
    x, y = other
    return x not in pair and y not in pair and side_at(chart, pair, x) != side_at(chart, pair, y)


def chords_cross(chart, pair, other):
    """Return whether the chords of two ascending pairs cross; nothing is checked."""
    return has_parted(chart, pair, other) and has_parted(chart, other, pair)
