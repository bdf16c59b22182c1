"""Round lots of points: those in convex position."""

from bentlines.charts import check_chart
from bentlines.errors import BadLine
from bentlines.links import check_simple_chart, check_sound_simple
from bentlines.numbers import check_one
from bentlines.threes import check_line, lot_of


def is_round(chart, lot):
    """Return whether the lot is round."""
    names = checked_points(chart, lot)
    return marks_of(chart, names) is not None


def round_marks(chart, lot):
    """Return the marks of the inner points of a round lot of three points or more; None for another lot."""
    names = checked_points(chart, lot)
    return marks_of(chart, names) if len(names) >= 3 else None


def most_round(chart):
    """Return a round lot with as many points as there can be."""
    check_simple_chart(chart)
    best = chart.lines[:1]
    for first in chart.lines:
        cups = longest_from(chart, first, 1)
        caps = longest_from(chart, first, -1)
        for last in cups:
            # The cup and the cap have their two ends in common.
            if len(cups[last]) + len(caps[last]) - 2 > len(best):
                best = tuple(sorted(cups[last] + caps[last][1:-1]))
    return best


def round_size(chart):
    """Return the number of points of a round lot with as many points as there can be."""
    return len(most_round(chart))


def most_between(chart, first, last, sign):
    """Return the number of lines of a longest cup (sign 1) or cap (sign -1) with this first and this last line."""
    check_chart(chart)
    check_line(first, chart.size)
    check_line(last, chart.size)
    if last <= first:
        raise BadLine(last)
    check_one(sign, "sign")
    check_sound_simple(chart)
    return len(longest_from(chart, first, sign)[last])


def checked_points(chart, lot):
    """Return a lot of points of a simple chart, ascending, with all errors due."""
    check_chart(chart)
    names = lot_of(lot, chart.size)
    check_sound_simple(chart)
    return names


def marks_of(chart, lot):
    """Return the marks of an ascending lot, or None if it is not round; nothing is checked."""
    marks = []
    for at in range(1, len(lot) - 1):
        signs = [chart.lot_sign((i, lot[at], k)) for i in lot[:at] for k in lot[at + 1:]]
        if signs != [signs[0]] * len(signs):
            return None
        marks.append(signs[0])
    return tuple(marks)


def longest_from(chart, first, sign):
    """Return for each line behind the first one a longest cup (sign 1) or cap (sign -1) from the first to this one."""
    chains = {}
    best = {}
    for last in chart.lines[first + 1:]:
        chains[(first, last)] = (first, last)
        for middle in range(first + 1, last):
            begun = [chains[(before, middle)] for before in range(first, middle)
                     if (before, middle) in chains and chart.lot_sign((before, middle, last)) == sign]
            if begun:
                chains[(middle, last)] = (*max(begun, key=len), last)
        best[last] = max([chains[(middle, last)] for middle in range(first, last) if (middle, last) in chains], key=len)
    return best
