"""Rows of lines from above to below, and turns on them."""

from bentlines.errors import BadKind, BadTurn
from bentlines.numbers import check_int, is_int
from bentlines.threes import MOST_LINES, check_line, check_size


def first_row(size):
    """Return the row 0, 1, .., size-1."""
    return tuple(range(check_size(size)))


def last_row(size):
    """Return the row size-1, .., 1, 0."""
    return first_row(size)[::-1]


def is_rising(row, turn):
    """Return whether the turn can be done on the row."""
    check_row(row)
    if not turn_fits(turn, len(row)):
        raise BadTurn(0)
    return stands_rising(row, turn)


def turned(row, turn):
    """Return the row behind the turn."""
    if not is_rising(row, turn):
        raise BadTurn(0)
    return row_behind_turn(tuple(row), turn)


def highest(row, j):
    """Return the lot of the j lines at the stands 0 .. j-1."""
    check_row(row)
    check_int(j, "j", 0, len(row))
    return tuple(sorted(row[:j]))


def stand(row, line):
    """Return the stand of the line."""
    check_row(row)
    check_line(line, len(row))
    return row.index(line)


def check_row(row):
    """Return the row if it has the lines 0 .. n-1, each once."""
    if not isinstance(row, (list, tuple)) or not 1 <= len(row) <= MOST_LINES:
        raise BadKind("row")
    if not all([is_int(line) for line in row]):
        raise BadKind("row")
    if sorted(row) != list(range(len(row))):
        raise BadKind("row")
    return row


def turn_fits(turn, size):
    """Return whether this is a list or tuple of two integers that fits on so many stands."""
    if not isinstance(turn, (list, tuple)) or len(turn) != 2:
        return False
    p, m = turn
    return is_int(p) and is_int(m) and p >= 0 and m >= 2 and p + m <= size


def lines_of_turn(row, turn):
    """Return the lines of the row at the stands of a turn that fits."""
    p, m = turn
    return row[p:p + m]


def stands_rising(row, turn):
    """Return whether the lines at the stands of a turn that fits stand rising."""
    names = lines_of_turn(row, turn)
    return list(names) == sorted(names)


def row_behind_turn(row, turn):
    """Return the row, a tuple, behind a turn that can be done."""
    p, m = turn
    return row[:p] + lines_of_turn(row, turn)[::-1] + row[p + m:]
