"""Bricks: drawings of few steps, and the orders of the steps that go over the middle edge."""

from bentlines.charts import check_chart
from bentlines.crossings import edge_order
from bentlines.drawings import Drawing
from bentlines.errors import BadKind, BadNumber
from bentlines.links import all_knots, knot_from
from bentlines.steps import is_steps
from bentlines.threes import check_size


def bricks_of(size):
    """Return the bricks of so many lines, a drawing."""
    check_size(size)
    return Drawing(size, [turn for turns in brick_turns(size) for turn in turns])


def brick_steps(size):
    """Return the steps of the bricks, a list of lists of knots."""
    knots = list(bricks_of(size).knots())
    steps = []
    for turns in brick_turns(size):
        steps.append(sorted(knots[:len(turns)]))
        knots = knots[len(turns):]
    return steps


def orders_of_steps(chart, steps):
    """Return the list of the orders of the crossing steps, for evenly many lines."""
    check_chart(chart)
    if chart.size % 2 == 1:
        raise BadNumber("size")
    if not is_steps(chart, steps):
        raise BadKind("steps")
    known = all_knots(chart)
    orders_met = [edge_order(chart, knot_from(known, knot), chart.size // 2) for step in steps for knot in step]
    # A step has at most one knot over the middle edge; all others have the order 0.
    return [order for order in orders_met if order > 0]


def brick_turns(size):
    """Return the turns of the bricks, a list for each step."""
    even = size - size % 2
    lists = [[(p, 2) for p in range(even - 1) if (p + s) % 2 == 1] for s in range(1, even + 1)]
    if size != even:
        lists = [[odd_turn(p, size // 2) for p, _ in turns] for turns in lists]
    return [turns for turns in lists if turns]


def odd_turn(p, half):
    """Return what becomes of the turn (p, 2) of twice half lines when one line more goes through the middle."""
    if p == half - 1:
        return (p, 3)
    return (p, 2) if p < half - 1 else (p + 1, 2)
