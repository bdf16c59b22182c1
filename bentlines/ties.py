"""Ties: lines brought together into one point."""

from bentlines.charts import check_chart, check_sound, with_signs
from bentlines.crossings import side_at
from bentlines.errors import BadKind, Parted, TooMany
from bentlines.threes import lot_of, lots_in, pairs_in, threes_in

MOST_TRIED = 10


def parting(chart, lot):
    """Return the parting of the lot, a line and two pairs, or None if no line parts it."""
    return parting_of(chart, checked_lines(chart, lot))


def can_tie(chart, lot):
    """Return whether the lot can be tied."""
    return parting(chart, lot) is None


def tied(chart, lot):
    """Return the chart in which the lot is tied."""
    names = checked_lines(chart, lot)
    found = parting_of(chart, names)
    if found is not None:
        line, first, second = found
        raise Parted(line, first, second)
    return with_signs(chart, {three: 0 for three in threes_in(names)})


def tie_lots(chart):
    """Return all lots of three lines or more that can be tied, ascending."""
    check_chart(chart)
    if chart.size > MOST_TRIED:
        raise TooMany("lines")
    check_sound(chart)
    return tuple([lot for lot in lots_in(chart.lines) if len(lot) >= 3 and parting_of(chart, lot) is None])


def checked_lines(chart, lot):
    """Return a lot of three lines or more of a sound chart, ascending, with all errors due."""
    check_chart(chart)
    if not isinstance(lot, (list, tuple)) or len(lot) < 3:
        raise BadKind("lot")
    names = lot_of(lot, chart.size)
    check_sound(chart)
    return names


def parting_of(chart, lot):
    """Return what parting returns, for an ascending lot; nothing is checked."""
    pairs = pairs_in(lot)
    for line in chart.lines:
        if line not in lot:
            sides = [side_at(chart, pair, line) for pair in pairs]
            if sides != [sides[0]] * len(sides):
                first, second = unlike_pairs(pairs, sides)
                return (line, first, second)
    return None


def unlike_pairs(pairs, sides):
    """Return the first pair whose side is not 0, and the first pair with another side than that."""
    off = [at for at, side in enumerate(sides) if side != 0][0]
    other = [at for at, side in enumerate(sides) if side != sides[off]][0]
    return (pairs[off], pairs[other])
