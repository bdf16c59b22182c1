"""Steps: lists of knots that can be turned at the same time."""

from bentlines.charts import check_chart, check_sound
from bentlines.drawn import normal_order
from bentlines.errors import BadKind
from bentlines.links import all_knots, has_each_once, knot_from, links_back
from bentlines.threes import inside


def steps_of(chart):
    """Return the earliest steps, a list of lists of knots."""
    numbers = step_numbers(chart)
    many = max([at + 1 for at in numbers.values()], default=0)
    return [sorted([knot for knot, at in numbers.items() if at == number]) for number in range(many)]


def is_steps(chart, steps):
    """Return whether these lists of knots are steps of the chart."""
    check_chart(chart)
    check_steps(steps)
    check_sound(chart)
    known = all_knots(chart)
    lists = [[knot_from(known, knot) for knot in step] for step in steps]
    if not has_each_once(chart, [knot for step in lists for knot in step]):
        return False
    back = links_back(chart)
    done = {}
    for step in lists:
        if not all([inside(back[knot], done) for knot in step]):
            return False
        for knot in step:
            done[knot] = True
    return True


def longest_chain(chart):
    """Return a chain of as many knots as can be, a list."""
    steps = steps_of(chart)
    back = links_back(chart)
    chain = []
    for step in steps[::-1]:
        # A knot was not ready earlier because of one that is linked to it and just one step earlier.
        choices = [knot for knot in step if not chain or knot in back[chain[-1]]]
        chain.append(choices[0])
    return chain[::-1]


def step_numbers(chart):
    """Return for each knot of a sound chart the index of the earliest step that can have it."""
    order = normal_order(chart)
    back = links_back(chart)
    numbers = {}
    for knot in order:
        numbers[knot] = max([numbers[first] + 1 for first in back[knot]], default=0)
    return numbers


def check_steps(steps):
    """Raise BadKind unless this is a list or tuple of lists or tuples."""
    if not isinstance(steps, (list, tuple)):
        raise BadKind("steps")
    if not all([isinstance(step, (list, tuple)) for step in steps]):
        raise BadKind("steps")
