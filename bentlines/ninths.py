"""Nine and ten points whose last three cannot but lie on one straight line, and bent lines that do not keep to it."""

from bentlines.charts import check_chart, check_sound
from bentlines.errors import BadKind, Degenerate
from bentlines.links import knot_through
from bentlines.ratios import sign_between
from bentlines.straights import Points, spot_of, turn_of
from bentlines.threes import common, lot_from_lines

# Threes of the nine or ten lines, counted from 0: those with the sign 0, and those with another one.
NINTH_FLAT = ((0, 1, 2), (3, 4, 5), (0, 4, 6), (1, 3, 6), (0, 5, 7), (2, 3, 7), (1, 5, 8), (2, 4, 8))
NINTH_BENT = ((0, 1, 3), (0, 1, 4), (0, 1, 5), (0, 3, 4), (1, 3, 4), (2, 3, 4), (6, 7, 8))
TENTH_FLAT = ((0, 1, 4), (0, 2, 5), (0, 3, 6), (1, 2, 9), (1, 3, 8), (2, 3, 7), (4, 5, 9), (4, 6, 8), (5, 6, 7))
TENTH_BENT = ((0, 1, 2), (0, 1, 3), (0, 2, 3), (7, 8, 9))


def nine_points(first, second, third, fourth, fifth, sixth):
    """Return the Points of these six spots and of three more where lines through them cross, and the lines of all."""
    words = ("first", "second", "third", "fourth", "fifth", "sixth")
    given = [spot_of(value, word) for value, word in zip((first, second, third, fourth, fifth, sixth), words)]
    check_flat(given, ((0, 1, 2), (3, 4, 5)))
    return with_crossings(given, ((0, 4, 1, 3), (0, 5, 2, 3), (1, 5, 2, 4)))


def ten_points(centre, a, b, c, d, e, f):
    """Return the Points of these seven spots and of three more where lines through them cross, and the lines of all."""
    words = ("centre", "a", "b", "c", "d", "e", "f")
    given = [spot_of(value, word) for value, word in zip((centre, a, b, c, d, e, f), words)]
    check_flat(given, ((0, 1, 4), (0, 2, 5), (0, 3, 6)))
    return with_crossings(given, ((2, 3, 5, 6), (1, 3, 4, 6), (1, 2, 4, 5)))


def is_ninth(chart, lines):
    """Return whether the nine lines, in this order, fit as a ninth."""
    check_chart(chart)
    names = many_lines(lines, 9, chart.size)
    check_sound(chart)
    return fits_ninth(chart, names)


def is_tenth(chart, lines):
    """Return whether the ten lines, in this order, fit as a tenth."""
    check_chart(chart)
    names = many_lines(lines, 10, chart.size)
    check_sound(chart)
    return fits_tenth(chart, names)


def find_ninth(chart):
    """Return nine lines that fit as a ninth, or None if there are none."""
    check_chart(chart)
    check_sound(chart)
    knots = {(a, b): knot_through(chart, (min(a, b), max(a, b)))
             for a in chart.lines for b in chart.lines if a != b}
    for a, b in knots:
        for d, e in knots:
            g = shared(knots, (a, e), (b, d))
            if g is not None:
                found = ninth_from(chart, knots, (a, b, d, e, g))
                if found is not None:
                    return found
    return None


def check_flat(spots, threes_told):
    """Raise Degenerate unless the spots are unlike and those of each three lie on one straight line."""
    for at, spot in enumerate(spots):
        if spot in spots[:at]:
            raise Degenerate("three")
    for i, j, k in threes_told:
        if turn_of(spots[i], spots[j], spots[k]) != 0:
            raise Degenerate("three")


def with_crossings(spots, fours_told):
    """Return what nine_points returns; each four tells two spots of one straight line and two of another one."""
    more = [crossing(spots[i], spots[j], spots[k], spots[m]) for i, j, k, m in fours_told]
    names = stands_by_x(spots + more)
    found = dict(zip(names, spots + more))
    return (Points([found[line] for line in sorted(names)]), names)


def crossing(first, second, third, fourth):
    """Return the spot where the straight lines through two spots and through two others cross."""
    # Going from the first spot by a share of the way to the second one, the other straight line is met.
    way = (second[0] - first[0], second[1] - first[1])
    other = (fourth[0] - third[0], fourth[1] - third[1])
    turn = way[0] * other[1] - way[1] * other[0]
    if not turn:
        raise Degenerate("meeting")
    share = ((third[0] - first[0]) * other[1] - (third[1] - first[1]) * other[0]).divided(turn)
    return (first[0] + share * way[0], first[1] + share * way[1])


def stands_by_x(spots):
    """Return for each spot how many have a lesser x, if no two have the same x."""
    stands = tuple([len([other for other in spots if sign_between(other[0], spot[0]) < 0]) for spot in spots])
    if sorted(stands) != list(range(len(spots))):
        raise Degenerate("x")
    return stands


def many_lines(lines, many, size):
    """Return the tuple of just so many different lines, in the order passed."""
    if not isinstance(lines, (list, tuple)) or len(lines) != many:
        raise BadKind("lines")
    lot_from_lines(lines, size)
    return tuple(lines)


def fits_ninth(chart, lines):
    """Return whether nine different lines fit as a ninth; nothing is checked."""
    return fits(chart, lines, NINTH_FLAT, NINTH_BENT)


def fits_tenth(chart, lines):
    """Return whether ten different lines fit as a tenth; nothing is checked."""
    return fits(chart, lines, TENTH_FLAT, TENTH_BENT)


def fits(chart, lines, flat, bent):
    """Return whether just the flat ones of these threes of the lines have the sign 0."""
    return (all([has_zero(chart, lines, three) for three in flat])
            and not any([has_zero(chart, lines, three) for three in bent]))


def has_zero(chart, lines, three):
    """Return whether the lines at the three indexes have the sign 0."""
    return chart.lot_sign(tuple(sorted([lines[at] for at in three]))) == 0


def shared(knots, pair, other):
    """Return the line beside these that the knots of the two pairs have in common, or None."""
    if len(set([*pair, *other])) < 4:
        return None
    both = [line for line in common(knots[pair], knots[other]) if line not in (*pair, *other)]
    # In a ninth the two knots are unlike, so that they have no two lines in common.
    return both[0] if len(both) == 1 else None


def ninth_from(chart, knots, begun):
    """Return nine lines that fit as a ninth, or None; the 1st, 2nd, 4th, 5th and 7th of them are begun."""
    a, b, d, e, g = begun
    for c in knots[(a, b)]:
        for f in knots[(d, e)]:
            if len(set([*begun, c, f])) == 7:
                h = shared(knots, (a, f), (c, d))
                i = shared(knots, (b, f), (c, e))
                if h is not None and i is not None:
                    lines = (a, b, c, d, e, f, g, h, i)
                    if len(set(lines)) == 9 and fits_ninth(chart, lines):
                        return lines
    return None
