"""Knots of a chart, the links between them, and the orders that links allow."""

from bentlines.charts import check_chart, check_sound, signs_of_four
from bentlines.errors import BadKind, NotReady, NotSimple, Unsound
from bentlines.numbers import is_int
from bentlines.rules import levels_on, met
from bentlines.threes import fours_in, inside, pair_of


def knot_of(chart, pair):
    """Return the knot of two lines."""
    check_chart(chart)
    names = pair_of(pair, chart.size)
    check_sound(chart)
    return knot_through(chart, names)


def knots_of(chart):
    """Return all knots, ascending."""
    check_chart(chart)
    check_sound(chart)
    return all_knots(chart)


def linked(chart, knot, other):
    """Return whether knot is linked to other."""
    check_chart(chart)
    check_sound(chart)
    knots = all_knots(chart)
    return has_link(chart, knot_from(knots, knot), knot_from(knots, other))


def ahead_of(chart, knot):
    """Return the knots linked to the knot, ascending."""
    check_chart(chart)
    check_sound(chart)
    knots = all_knots(chart)
    last = knot_from(knots, knot)
    return tuple([first for first in knots if has_link(chart, first, last)])


def closed(chart, knots):
    """Return the least closed lot that has these knots."""
    lot = checked_lot(chart, knots)
    return with_all_before(links_back(chart), lot)


def is_closed(chart, knots):
    """Return whether the lot of knots is closed."""
    lot = checked_lot(chart, knots)
    return with_all_before(links_back(chart), lot) == lot


def ready(chart, knots):
    """Return the knots that are ready behind the closed lot, ascending."""
    lot = checked_closed(chart, knots)
    back = links_back(chart)
    return tuple([knot for knot in back if knot not in lot and inside(back[knot], lot)])


def is_order(chart, knots):
    """Return whether the knots, in this sequence, are an order."""
    order = checked_sequence(chart, knots)
    return has_each_once(chart, order) and first_unready(links_back(chart), order) is None


def ring_of_links(chart):
    """Return any ring of links, a tuple of knots, or None if there is none."""
    check_chart(chart)
    for four in fours_in(chart.lines):
        if signs_of_four(chart, four).count(0) in (2, 3):
            raise Unsound(four)
    knots = all_knots(chart)
    # The chart may be unsound, so that its lines need not have levels.
    back = {last: [first for first in knots if has_link(chart, first, last)] for last in knots}
    left = never_ready(back)
    if not left:
        return None
    return ring_within(back, left)


def knot_through(chart, pair):
    """Return the knot of an ascending pair; nothing is checked."""
    return tuple([line for line in chart.lines
                  if line in pair or chart.lot_sign(tuple(sorted([*pair, line]))) == 0])


def all_knots(chart):
    """Return all knots of a chart in which no four has just two or three signs 0."""
    found = []
    for first in chart.lines:
        for second in chart.lines[first + 1:]:
            knot = knot_through(chart, (first, second))
            if knot[:2] == (first, second):
                found.append(knot)
    return tuple(found)


def knot_from(knots, value):
    """Return the one of the knots that has just these lines, in any order."""
    if not isinstance(value, (list, tuple)) or not all([is_int(line) for line in value]):
        raise BadKind("knot")
    knot = tuple(sorted(value))
    if knot not in knots:
        raise BadKind("knot")
    return knot


def check_knots(knots):
    """Return the knots if they are a list or tuple; its entries are not asked."""
    if not isinstance(knots, (list, tuple)):
        raise BadKind("knots")
    return knots


def checked_sequence(chart, knots):
    """Return the list of these knots of a sound chart, in the order given, with all errors due."""
    check_chart(chart)
    check_knots(knots)
    check_sound(chart)
    known = all_knots(chart)
    return [knot_from(known, knot) for knot in knots]


def checked_lot(chart, knots):
    """Return a lot of knots of a sound chart as an ascending tuple, with all errors due."""
    check_chart(chart)
    check_knots(knots)
    check_sound(chart)
    known = all_knots(chart)
    lot = []
    for value in knots:
        knot = knot_from(known, value)
        if knot in lot:
            raise BadKind("knots")
        lot.append(knot)
    return tuple(sorted(lot))


def checked_closed(chart, knots):
    """Return a closed lot of knots as an ascending tuple, with all errors due."""
    lot = checked_lot(chart, knots)
    wrong = least_unready(links_back(chart), lot)
    if wrong is not None:
        raise NotReady(wrong)
    return lot


def check_simple(chart):
    """Raise NotSimple, with the least knot of more than two lines, unless the sound chart is simple."""
    for knot in all_knots(chart):
        if len(knot) > 2:
            raise NotSimple(knot)


def check_sound_simple(chart):
    """Raise Unsound or NotSimple unless the chart is sound and simple."""
    check_sound(chart)
    check_simple(chart)


def check_simple_chart(chart):
    """Return the value if it is a chart, sound and simple."""
    check_chart(chart)
    check_sound_simple(chart)
    return chart


def has_each_once(chart, order):
    """Return whether a list of knots has all knots of the chart, each once."""
    return sorted(order) == list(all_knots(chart))


def has_link(chart, knot, other):
    """Return whether knot is linked to other; nothing is checked."""
    ways = [met(chart, line, first, second)
            for line in knot if line in other
            for first in knot if first != line
            for second in other if second not in (line, first)]
    return 1 in ways


def knots_on(chart, line):
    """Return the knots of a line of a sound chart, in the order in which it meets them."""
    return tuple([tuple(sorted([line, *level])) for level in levels_on(chart, line)])


def links_back(chart):
    """Return for each knot, ascending, the knots that some line of it meets directly ahead of it.

    All other links follow from these.
    """
    back = {knot: [] for knot in all_knots(chart)}
    for line in chart.lines:
        way = knots_on(chart, line)
        for first, second in zip(way, way[1:]):
            back[second].append(first)
    return back


def with_all_before(back, knots):
    """Return these knots and all knots before them, ascending."""
    found = {knot: True for knot in knots}
    waiting = list(knots)
    while waiting:
        knot = waiting.pop()
        for first in back[knot]:
            if first not in found:
                found[first] = True
                waiting.append(first)
    return tuple(sorted(found))


def least_unready(back, lot):
    """Return the least knot of the lot that has a knot before it outside, or None."""
    kept = {knot: True for knot in lot}
    for knot in lot:
        if not inside(with_all_before(back, [knot]), kept):
            return knot
    return None


def first_unready(back, order):
    """Return the first knot of the sequence that is not ready behind those before it, or None."""
    done = {}
    for knot in order:
        if not inside(back[knot], done):
            return knot
        done[knot] = True
    return None


def never_ready(back):
    """Return as a dict the knots that are left if again and again all ready ones are taken."""
    left = {knot: True for knot in back}
    while True:
        kept = {knot: True for knot in left if any([first in left for first in back[knot]])}
        if len(kept) == len(left):
            return kept
        left = kept


def ring_within(back, left):
    """Return a ring of some of the knots that are left; each has a link from another one."""
    way = []
    knot = sorted(left)[0]
    while knot not in way:
        way.append(knot)
        knot = [first for first in back[knot] if first in left][0]
    # The way goes against the links, so the ring is what comes behind, turned round.
    return tuple(way[way.index(knot):][::-1])
