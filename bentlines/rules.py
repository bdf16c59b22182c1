"""Rules: which rows of signs are good, and in which order a line meets the others."""

from bentlines.charts import check_chart, check_sound, good_row, is_sign, signs_of_four
from bentlines.errors import BadKind
from bentlines.threes import check_line, four_of, three_of, threes_in


def row_of(chart, four):
    """Return the row of signs of four lines, a tuple."""
    check_chart(chart)
    return signs_of_four(chart, four_of(four, chart.size))


def is_good(row):
    """Return whether a row of four signs is good."""
    if not isinstance(row, (list, tuple)) or len(row) != 4:
        raise BadKind("row")
    if not all([is_sign(sign) for sign in row]):
        raise BadKind("row")
    return good_row(tuple(row))


def met(chart, line, first, second):
    """Return what ahead returns, for three different lines; nothing is checked."""
    sign = chart.lot_sign(tuple(sorted([line, first, second])))
    return sign if first < second else -sign


def ahead(chart, line, first, second):
    """Return 1, 0, -1 if the line meets first ahead of, at once with, behind second."""
    check_chart(chart)
    three_of((line, first, second), chart.size)
    return met(chart, line, first, second)


def ring(chart, line):
    """Return any ring on the line as a tuple, or None if there is none."""
    check_chart(chart)
    check_line(line, chart.size)
    for three in threes_in([other for other in chart.lines if other != line]):
        found = ring_of(chart, line, three)
        if found is not None:
            return found
    return None


def ring_of(chart, line, three):
    """Return a ring on the line of these three other lines, or None."""
    a, b, c = three
    way = [met(chart, line, a, b), met(chart, line, b, c), met(chart, line, c, a)]
    if 1 in way and -1 not in way:
        return (a, b, c)
    if -1 in way and 1 not in way:
        return (a, c, b)
    return None


def ringed(chart):
    """Return the least line that has a ring, and any ring on it; None if no line has one."""
    check_chart(chart)
    for line in chart.lines:
        found = ring(chart, line)
        if found is not None:
            return (line, found)
    return None


def meetings(chart, line):
    """Return the levels of a line of a sound chart, in the order in which it meets them."""
    check_chart(chart)
    check_line(line, chart.size)
    check_sound(chart)
    return levels_on(chart, line)


def levels_on(chart, line):
    """Return the levels of a line of a sound chart; nothing is checked."""
    others = [other for other in chart.lines if other != line]
    levels = {}
    for other in others:
        # Lines met at once have equally many lines ahead of them, others do not.
        before = [first for first in others if first != other and met(chart, line, first, other) > 0]
        levels.setdefault(len(before), []).append(other)
    return tuple([tuple(levels[many]) for many in sorted(levels)])
