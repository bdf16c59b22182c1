"""One line more: the orders in which a new line can meet the others, and lines taken out."""

from bentlines.charts import Chart, check_chart, check_sound
from bentlines.drawn import row_behind_lot
from bentlines.errors import BadKind, NotSimple, TooMany
from bentlines.links import all_knots, knots_on
from bentlines.numbers import check_int, is_int
from bentlines.places import check_place, places_of
from bentlines.threes import MOST_LINES, check_line, check_size, common, threes_in, unlike

MOST_ORDERS = 5000


def lots_along(size, name, order):
    """Return the lots of old lines that lie along the order, for so many old lines."""
    check_size(size)
    check_int(name, "name", 0, size)
    return lots_through(name, order_from(order, size, "order"))


def put_in(chart, name, order):
    """Return the chart with the new line."""
    check_chart(chart)
    check_int(name, "name", 0, chart.size)
    lines = order_from(order, chart.size, "order")
    if chart.size == MOST_LINES:
        raise TooMany("lines")
    check_sound(chart)
    check_along(chart, name, lines)
    return Chart(chart.size + 1, signs_with(chart, name, lines))


def order_of(chart, line):
    """Return the order in which the line meets the others, named as in the chart without it."""
    check_chart(chart)
    check_line(line, chart.size)
    check_sound(chart)
    for knot in all_knots(chart):
        if line in knot and len(knot) > 2:
            raise NotSimple(knot)
    met_lines = [other for pair in knots_on(chart, line) for other in pair if other != line]
    return tuple([old_name(other, line) for other in met_lines])


def taken_out(chart, line):
    """Return the chart without the line."""
    check_chart(chart)
    check_line(line, chart.size)
    check_sound(chart)
    # A chart has no part of no lines, so that its only line is refused here.
    return chart.part([other for other in chart.lines if other != line])


def orders(chart, name):
    """Yield all orders that can be put in with this name, ascending."""
    if count_orders(chart, name) > MOST_ORDERS:
        raise TooMany("orders")
    yield from orders_through(chart, name)


def count_orders(chart, name):
    """Return how many orders can be put in with this name."""
    check_chart(chart)
    check_int(name, "name", 0, chart.size)
    # Unsound charts are refused here.
    known = {place: True for place in places_of(chart)}
    ways = {chart.lines[:name]: 1}
    for _ in chart.lines:
        ways = ways_onward(known, name, chart.lines, ways)
    return sum(ways.values())


def both(chart, order, other):
    """Return the order with the last name that has above it just the knots above both new lines."""
    first, second = knots_over_two(chart, order, other)
    return order_below(chart, common(first, second))


def either(chart, order, other):
    """Return the order with the last name that has above it just the knots above at least one of the new lines."""
    first, second = knots_over_two(chart, order, other)
    return order_below(chart, first + second)


def order_from(value, size, word):
    """Return the tuple of these lines if they are all lines, each once; word tells which argument it is."""
    if not isinstance(value, (list, tuple)) or not all([is_int(line) for line in value]):
        raise BadKind(word)
    if sorted(value) != list(range(size)):
        raise BadKind(word)
    return tuple(value)


def lots_through(name, order):
    """Return what lots_along returns; nothing is checked."""
    lot = tuple(range(name))
    found = [lot]
    for line in order:
        lot = unlike(lot, (line,))
        found.append(lot)
    return tuple(found)


def check_along(chart, name, order):
    """Raise NotPlace unless the order can be put in with the name."""
    for lot in lots_through(name, order):
        check_place(chart, lot)


def old_name(line, name):
    """Return the name that another line has beside no line of this name."""
    return line if line < name else line - 1


def name_beside(line, name):
    """Return the name that an old line has beside a line of this name."""
    return line if line < name else line + 1


def signs_with(chart, name, order):
    """Return the list of the signs of the chart with a line of this name and order put in; nothing is checked."""
    lines = list(range(chart.size + 1))
    return [sign_with(chart, name, order, three) for three in threes_in(lines)]


def sign_with(chart, name, order, three):
    """Return the sign of an ascending three when a line with this name and order has been put in."""
    others = [old_name(line, name) for line in three if line != name]
    if len(others) == 3:
        return chart.lot_sign(tuple(others))
    first, second = others
    return 1 if order.index(first) < order.index(second) else -1


def next_lots(known, name, lines, lot):
    """Return the pairs of a line that the new line may meet next and the lot behind it; known has all places."""
    # Lines with lesser names than the new one only leave the lot, the others only come in.
    free = [line for line in lines if (line in lot) == (line < name)]
    moves = [(line, unlike(lot, (line,))) for line in free]
    return [move for move in moves if move[1] in known]


def ways_onward(known, name, lines, ways):
    """Return in how many ways each lot is reached one step on; ways tells that for the lots reached so far."""
    found = {}
    for lot, many in ways.items():
        for _, beyond in next_lots(known, name, lines, lot):
            found[beyond] = found.get(beyond, 0) + many
    return found


def orders_through(chart, name):
    """Return the list of all orders that can be put in, ascending; nothing is checked."""
    known = {place: True for place in places_of(chart)}
    begun = [((), chart.lines[:name])]
    for _ in chart.lines:
        begun = [((*order, line), beyond) for order, lot in begun
                 for line, beyond in next_lots(known, name, chart.lines, lot)]
    return [order for order, lot in begun]


def knots_over_two(chart, order, other):
    """Return the closed lots of knots above two new lines with the last name, with all errors due."""
    check_chart(chart)
    first = order_from(order, chart.size, "order")
    second = order_from(other, chart.size, "other")
    check_sound(chart)
    check_along(chart, chart.size, first)
    check_along(chart, chart.size, second)
    return (knots_rising(chart, first), knots_rising(chart, second))


def knots_rising(chart, order):
    """Return the knots whose lines stand in the order with their names rising."""
    return tuple([knot for knot in all_knots(chart) if order.index(knot[0]) < order.index(knot[1])])


def order_below(chart, knots):
    """Return the order with the last name that has just the knots of a closed lot above it."""
    return row_behind_lot(chart, knots)[::-1]
