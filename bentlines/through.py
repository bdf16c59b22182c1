"""New lines through two places: with which names, and in which orders, they can go along both."""

from bentlines.charts import check_chart, check_sound
from bentlines.errors import Degenerate
from bentlines.lastlines import check_along, lots_through, order_from
from bentlines.numbers import check_int
from bentlines.places import check_place
from bentlines.threes import lot_of
from bentlines.walks import checked_places, walk_between


def names_through(chart, place, other):
    """Return the names with which some new line goes along both places, ascending."""
    first, second = checked_places(chart, place, other)
    return tuple([name for name in range(chart.size + 1)
                  if leads(first, second, name) or leads(second, first, name)])


def order_through_places(chart, name, place, other):
    """Return an order that can be put in with this name and has both places along it."""
    check_chart(chart)
    check_int(name, "name", 0, chart.size)
    first, second = checked_places(chart, place, other)
    if leads(first, second, name):
        return order_by(chart, name, first, second)
    if leads(second, first, name):
        return order_by(chart, name, second, first)
    raise Degenerate("name")


def goes_through(chart, name, order, place):
    """Return whether the place is along the order, which must be one that can be put in with this name."""
    check_chart(chart)
    check_int(name, "name", 0, chart.size)
    lines = order_from(order, chart.size, "order")
    lot = lot_of(place, chart.size)
    check_sound(chart)
    check_along(chart, name, lines)
    return check_place(chart, lot) in lots_through(name, lines)


def leads(place, other, name):
    """Return whether a new line with the name can come from the place to the other one; nothing is checked."""
    leaving = [line for line in place if line not in other]
    coming = [line for line in other if line not in place]
    return all([line < name for line in leaving]) and all([line >= name for line in coming])


def order_by(chart, name, place, other):
    """Return an order along the place and then along the other one, to which it leads; nothing is checked."""
    stops = [chart.lines[:name], place, other, chart.lines[name:]]
    # Each line is unlike in just one of the three parts, so that it is met once.
    return tuple([line for first, second in zip(stops, stops[1:]) for line in walk_between(chart, first, second)])
