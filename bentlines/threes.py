"""Names of lines: threes, fours, lots and the sign of an order."""

from bentlines.errors import BadKind, BadLine
from bentlines.numbers import check_int, is_int

MOST_LINES = 16


def check_size(size):
    """Return the size if a chart can have so many lines."""
    return check_int(size, "size", 1, MOST_LINES)


def check_line(line, size):
    """Return the line if it is one of the lines 0 .. size-1."""
    if not is_int(line) or not 0 <= line < size:
        raise BadLine(line)
    return line


def pairs_in(names):
    """Return the list of all pairs of the names, in the order in which they stand."""
    return [(first, second) for at, first in enumerate(names) for second in names[at + 1:]]


def threes_in(names):
    """Return the list of all threes of the names, in the order in which they stand."""
    return [(first, *pair) for at, first in enumerate(names) for pair in pairs_in(names[at + 1:])]


def fours_in(names):
    """Return the list of all fours of the names, in the order in which they stand."""
    return [(first, *three) for at, first in enumerate(names) for three in threes_in(names[at + 1:])]


def lots_in(names):
    """Return the list of all lots of ascending names, ascending."""
    found = [()]
    for name in names[::-1]:
        found = [()] + [(name, *lot) for lot in found] + found[1:]
    return found


def threes(size):
    """Yield all threes of so many lines, ascending."""
    check_size(size)
    yield from threes_in(list(range(size)))


def fours(size):
    """Yield all fours of so many lines, ascending."""
    check_size(size)
    yield from fours_in(list(range(size)))


def order_sign(names):
    """Return 1 if an even number of exchanges of two entries sorts the names, else -1."""
    if not isinstance(names, (list, tuple)) or not all([is_int(name) for name in names]):
        raise BadKind("names")
    for at, name in enumerate(names):
        if name in names[:at]:
            raise BadLine(name)
    falling = [name for at, name in enumerate(names) for other in names[:at] if other > name]
    return 1 if len(falling) % 2 == 0 else -1


def lot_of(value, size):
    """Return the lot with these lines, ascending."""
    check_size(size)
    if not isinstance(value, (list, tuple)):
        raise BadKind("lot")
    return lot_from_lines(value, size)


def pair_of(value, size):
    """Return the lot of these two lines, ascending."""
    return lot_of_many(value, size, 2, "pair")


def three_of(value, size):
    """Return the lot of these three lines, ascending."""
    return lot_of_many(value, size, 3, "three")


def four_of(value, size):
    """Return the lot of these four lines, ascending."""
    return lot_of_many(value, size, 4, "four")


def lot_of_many(value, size, many, word):
    """Return the lot of just so many lines; word tells what is asked for."""
    check_size(size)
    if not isinstance(value, (list, tuple)) or len(value) != many:
        raise BadKind(word)
    return lot_from_lines(value, size)


def lot_from_lines(value, size):
    """Return the entries of a list or tuple, ascending, if they are different lines."""
    for at, line in enumerate(value):
        check_line(line, size)
        if line in value[:at]:
            raise BadLine(line)
    return tuple(sorted(value))


def inside(lot, other):
    """Return whether each entry of lot is in other."""
    return all([name in other for name in lot])


def common(lot, other):
    """Return the entries of lot that are in other, in their order."""
    return tuple([name for name in lot if name in other])


def unlike(lot, other):
    """Return the ascending tuple of the entries of just one of the two."""
    only = [name for name in lot if name not in other]
    return tuple(sorted(only + [name for name in other if name not in lot]))
