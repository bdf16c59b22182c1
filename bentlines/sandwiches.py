"""Sandwiches: meetings of a line of one lot and a line of another, with so many lines of each lot above."""

from bentlines.charts import check_chart
from bentlines.crossings import lines_above
from bentlines.errors import BadKind, BadLine, BadNumber
from bentlines.links import check_sound_simple
from bentlines.numbers import check_int
from bentlines.threes import MOST_LINES, common, lot_from_lines, lot_of


def sandwiches_of(chart, lot, other, first, second):
    """Return all (first, second)-sandwiches, a line of lot and a line of other each, ascending."""
    check_chart(chart)
    names, others = two_lots(lot, other, chart.size)
    check_layers(names, others, first, second)
    check_sound_simple(chart)
    return found_sandwiches(chart, names, others, first, second)


def sandwich_odd(lot, other, first, second):
    """Return whether there is an odd number of (first, second)-sandwiches, told by the names alone."""
    names, others = two_lots(lot, other, MOST_LINES)
    check_layers(names, others, first, second)
    ahead_first = names[first - 1] < others[second - 1]
    # Counted from the end as well: -i is the index of the i-th line from the last one.
    return ahead_first == (names[-first] < others[-second])


def halving(chart, lot, other):
    """Return the least sandwich that has half of the other lines of each lot above it."""
    check_chart(chart)
    names, others = two_lots(lot, other, chart.size)
    check_odd(names, "lot")
    check_odd(others, "other")
    check_sound_simple(chart)
    return found_sandwiches(chart, names, others, len(names) // 2 + 1, len(others) // 2 + 1)[0]


def two_lots(lot, other, size):
    """Return two lots without a common line, each ascending, with all errors due."""
    names = lot_of(lot, size)
    if not isinstance(other, (list, tuple)):
        raise BadKind("other")
    others = lot_from_lines(other, size)
    for line in other:
        if line in names:
            raise BadLine(line)
    return (names, others)


def check_layers(names, others, first, second):
    """Raise BadNumber unless these are numbers of lines of the two lots, counted from 1."""
    check_int(first, "first", 1, len(names))
    check_int(second, "second", 1, len(others))


def check_odd(names, word):
    """Raise BadNumber unless the lot has an odd number of lines."""
    if len(names) % 2 == 0:
        raise BadNumber(word)


def found_sandwiches(chart, names, others, first, second):
    """Return what sandwiches_of returns, for ascending lots; nothing is checked."""
    return tuple([(a, b) for a in names for b in others
                  if layers_over(chart, names, others, a, b) == (first - 1, second - 1)])


def layers_over(chart, names, others, a, b):
    """Return how many lines of each lot are above the meeting of a and b; nothing is checked."""
    over = lines_above(chart, (min(a, b), max(a, b)))
    return (len(common(over, names)), len(common(over, others)))
