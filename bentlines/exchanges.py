"""Exchanges of neighbouring turns, and how many of them lead from one drawing to another."""

from bentlines.drawings import Drawing, check_drawing
from bentlines.errors import Degenerate, NotFar
from bentlines.numbers import check_int
from bentlines.threes import pairs_in


def is_far(drawing, at):
    """Return whether the turns with the indexes at and at + 1 have no stand in common."""
    check_drawing(drawing)
    check_int(at, "at", 0, len(drawing.turns) - 2)
    p, m = drawing.turns[at]
    q, k = drawing.turns[at + 1]
    return p + m <= q or q + k <= p


def exchanged(drawing, at):
    """Return the drawing in which the turns with the indexes at and at + 1 are exchanged."""
    if not is_far(drawing, at):
        raise NotFar(at)
    return Drawing(drawing.size, with_exchange(drawing.turns, at))


def orders_apart(drawing, other):
    """Return how many pairs of knots have another order in the one drawing than in the other."""
    stands = stands_in_other(drawing, other)
    return len([first for first, second in pairs_in(stands) if first > second])


def exchange_way(drawing, other):
    """Return a shortest list of indexes at which exchanges make the drawing the other one."""
    stands = stands_in_other(drawing, other)
    way = []
    at = first_fall(stands)
    # Two neighbours in the wrong order are not linked, so that they are far: each exchange can be done.
    while at is not None:
        way.append(at)
        stands = with_exchange(stands, at)
        at = first_fall(stands)
    return way


def stands_in_other(drawing, other):
    """Return for each knot of the drawing, in order, at which index the other drawing turns it."""
    check_drawing(drawing)
    check_drawing(other)
    if drawing.chart() != other.chart():
        raise Degenerate("charts")
    knots = other.knots()
    return tuple([knots.index(knot) for knot in drawing.knots()])


def first_fall(numbers):
    """Return the first index whose number is above the next one, or None."""
    for at, pair in enumerate(zip(numbers, numbers[1:])):
        if pair[0] > pair[1]:
            return at
    return None


def with_exchange(values, at):
    """Return the tuple with the values at the indexes at and at + 1 exchanged."""
    return values[:at] + (values[at + 1], values[at]) + values[at + 2:]
