"""Cups and caps: lots in which each three neighbours have the same sign."""

from bentlines.charts import check_chart, check_sound
from bentlines.errors import BadKind
from bentlines.links import check_sound_simple
from bentlines.numbers import check_int, check_one, choose, is_int
from bentlines.threes import lot_of, pairs_in


def is_cup(chart, lot):
    """Return whether the lot is a cup."""
    return is_bow(chart, lot, 1)


def is_cap(chart, lot):
    """Return whether the lot is a cap."""
    return is_bow(chart, lot, -1)


def cup_table(chart, sign):
    """Return the least cup table (sign 1) or cap table (sign -1)."""
    check_bows(chart, sign)
    return least_table(chart, sign)


def longest_cup(chart):
    """Return a cup with as many lines as there can be."""
    return longest_bow(chart, 1)


def longest_cap(chart):
    """Return a cap with as many lines as there can be."""
    return longest_bow(chart, -1)


def cup_size(chart):
    """Return the number of lines of a longest cup."""
    return len(longest_cup(chart))


def cap_size(chart):
    """Return the number of lines of a longest cap."""
    return len(longest_cap(chart))


def is_cup_table(chart, sign, table):
    """Return whether the table is a cup table (sign 1) or a cap table (sign -1)."""
    check_chart(chart)
    check_one(sign, "sign")
    check_table(table, chart.size)
    check_sound_simple(chart)
    return all([table[v][u] >= least_entry(chart, sign, table, u, v) for u, v in pairs_in(chart.lines)])


def most_lines(cup, cap):
    """Return how many lines a chart with this cup size and this cap size has at most."""
    check_int(cup, "cup", 1, None)
    check_int(cap, "cap", 1, None)
    return choose(cup + cap - 2, cup - 1)


def is_bow(chart, lot, sign):
    """Return whether the lot is a cup (sign 1) or a cap (sign -1), with all errors due."""
    check_chart(chart)
    names = lot_of(lot, chart.size)
    if not names:
        raise BadKind("lot")
    check_sound(chart)
    return all([chart.lot_sign(three) == sign for three in zip(names, names[1:], names[2:])])


def check_bows(chart, sign):
    """Raise the error that is due unless this is a simple chart and one of the signs 1 and -1."""
    check_chart(chart)
    check_one(sign, "sign")
    check_sound_simple(chart)


def check_table(table, size):
    """Raise BadKind unless this is a list or tuple of so many lists or tuples of so many integers each."""
    if not isinstance(table, (list, tuple)) or len(table) != size:
        raise BadKind("table")
    for row in table:
        if not isinstance(row, (list, tuple)) or len(row) != size or not all([is_int(entry) for entry in row]):
            raise BadKind("table")


def longer_by(chart, sign, u, v):
    """Return the lines t for which t, u, v are three neighbours of a cup (sign 1) or a cap (sign -1)."""
    return [t for t in range(u) if chart.lot_sign((t, u, v)) == sign]


def least_entry(chart, sign, table, u, v):
    """Return the least entry that a table can have for u and v, when it has these entries for lesser lines."""
    return max([2] + [1 + table[u][t] for t in longer_by(chart, sign, u, v)])


def least_table(chart, sign):
    """Return what cup_table returns; nothing is checked."""
    table = [[0] * chart.size for _ in chart.lines]
    for v in chart.lines:
        for u in range(v):
            table[v][u] = least_entry(chart, sign, table, u, v)
    return tuple([tuple(row) for row in table])


def longest_bow(chart, sign):
    """Return a longest cup (sign 1) or cap (sign -1), with all errors due."""
    check_bows(chart, sign)
    if chart.size == 1:
        return chart.lines
    table = least_table(chart, sign)
    many, u, v = max([(table[last][first], first, last) for first, last in pairs_in(chart.lines)])
    lines = [v, u]
    while len(lines) < many:
        before = [t for t in longer_by(chart, sign, u, v) if table[u][t] == table[v][u] - 1]
        u, v = before[0], u
        lines.append(u)
    return tuple(lines[::-1])
