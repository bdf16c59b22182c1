"""The module bricks: points [168] and [169]."""

import unittest

from bentlines.bricks import brick_steps, bricks_of, orders_of_steps
from bentlines.charts import Chart
from bentlines.crossings import edges_of, knots_over
from bentlines.drawings import Drawing
from bentlines.errors import BadKind, BadNumber, Unsound
from bentlines.scattered import is_scattered
from bentlines.steps import is_steps, longest_chain, steps_of
from tests.helpers import (NO_INTEGERS, NO_KNOTS, NO_LISTS, UNSOUND, WITH_KNOT, DueCase, huge_charts, large_charts,
                           small_charts)


def told_turns(size):
    """The turns of the bricks, a list for each s, by the words of [169]."""
    if size % 2 == 0:
        return [[(p, 2) for p in range(0, size - 1) if (p + s) % 2 == 1] for s in range(1, size + 1)]
    m = size // 2
    return [[(p, 2) if p < m - 1 else (m - 1, 3) if p == m - 1 else (p + 1, 2) for p, _ in turns]
            for turns in told_turns(size - 1)]


def told_orders(chart, steps):
    """The orders of the crossing steps, by the words of [168]."""
    middle = chart.size // 2
    knots = knots_over(chart, middle)
    found = []
    for step in steps:
        over = [knot for knot in step if knot in knots]
        if over:
            h = edges_of(chart, over[0]).index(middle) + 1
            found.append(min(h, len(over[0]) - h))
    return found


def even_charts():
    return [chart for chart in small_charts() + large_charts() + huge_charts() if chart.size % 2 == 0]


def with_steps(chart):
    """Several steps of a chart: the earliest, one knot in each list, and the latest; empty lists, too."""
    early = steps_of(chart)
    single = [[knot] for knot in Drawing.of(chart).knots()]
    turned = [[tuple(sorted(chart.size - 1 - x for x in knot)) for knot in step] for step in steps_of(~chart)][::-1]
    return [early, single, turned, [[], *early, [], []]]


class BricksTest(DueCase):
    def test_every_size(self):
        """[169] The turns and the steps, which are the earliest ones."""
        for size in range(1, 17):
            bricks, told = bricks_of(size), told_turns(size)
            self.assertIsInstance(bricks, Drawing)
            self.assertEqual((size, tuple(turn for turns in told for turn in turns)), (bricks.size, bricks.turns))
            chart, knots = bricks.chart(), list(bricks.knots())
            steps = []
            for turns in told:
                if turns:
                    steps.append(sorted(knots[:len(turns)]))
                    del knots[:len(turns)]
            self.assertEqual(steps, brick_steps(size))
            self.assertEqual(steps_of(chart), brick_steps(size))
            self.assertEqual(len(steps), len(longest_chain(chart)))
            if size >= 4:
                self.assertEqual((size - size % 2, True), (len(steps), is_scattered(chart)))
                self.assertEqual({2, 3} if size % 2 else {2}, {len(knot) for knot in bricks.knots()})

    def test_few_lines(self):
        self.assertEqual(((), []), (bricks_of(1).turns, brick_steps(1)))
        self.assertEqual((((0, 2),), [[(0, 1)]]), (bricks_of(2).turns, brick_steps(2)))
        self.assertEqual((((0, 3),), [[(0, 1, 2)]]), (bricks_of(3).turns, brick_steps(3)))

    def test_new_lists(self):
        found = brick_steps(4)
        found[0].append(None)
        found.clear()
        self.assertEqual([[(0, 1), (2, 3)], [(0, 3)], [(0, 2), (1, 3)], [(1, 2)]], brick_steps(4))

    def test_refusals(self):
        for value in (*NO_INTEGERS, 0, -1, 17):
            for call in (bricks_of, brick_steps):
                self.due(BadNumber, {"word": "size"}, call, value)


class OrdersTest(DueCase):
    def test_even_charts(self):
        """[168] The orders; twice their sum is at least n, and so many lists stand between."""
        for chart in even_charts():
            n = chart.size
            middle = knots_over(chart, n // 2)
            for steps in with_steps(chart):
                found = orders_of_steps(chart, tuple(map(tuple, steps)))
                self.assertIsInstance(found, list)
                self.assertEqual(told_orders(chart, steps), found)
                self.assertGreaterEqual(2 * sum(found), n)
                crossing = []
                for at, step in enumerate(steps):
                    over = [knot for knot in step if knot in middle]
                    self.assertLessEqual(len(over), 1)
                    crossing += [at] * len(over)
                for at in range(len(crossing) - 1):
                    self.assertGreaterEqual(crossing[at + 1] - crossing[at] - 1, found[at] + found[at + 1] - 1)

    def test_all_lines_in_one_knot(self):
        for n in (2, 4, 16):
            chart = Chart(n, [0] * (n * (n - 1) * (n - 2) // 6))
            self.assertEqual([n // 2], orders_of_steps(chart, [[], [list(range(n))[::-1]]]))

    def test_refusals(self):
        self.asks_for_chart(orders_of_steps, None)
        # An odd number of lines is told ahead of all that is asked of the steps.
        for chart in (Chart.fan(1), Chart.fan(3), Chart.fan(1) + UNSOUND):
            self.due(BadNumber, {"word": "size"}, orders_of_steps, chart, None)
        for value in (*NO_LISTS, [None], [[(0, 1)], "01"], ([], 3)):
            self.due(BadKind, {"word": "steps"}, orders_of_steps, UNSOUND, value)
        for value in ([], [[None]]):
            self.due(Unsound, {"four": (0, 1, 2, 3)}, orders_of_steps, UNSOUND, value)
            self.due(Unsound, {"four": (2, 3, 4, 5)}, orders_of_steps, Chart.fan(2) + UNSOUND, value)
        for value in NO_KNOTS:
            self.due(BadKind, {"word": "knot"}, orders_of_steps, WITH_KNOT, [[(0, 3)], [value]])
        for value in ([], [[(0, 3)]], [[(0, 3), (0, 1, 2)], [(1, 3)], [(2, 3)]],
                      [[(0, 1, 2)], [(0, 3)], [(1, 3)], [(2, 3)], [(0, 3)]]):
            self.assertIs(False, is_steps(WITH_KNOT, value))
            self.due(BadKind, {"word": "steps"}, orders_of_steps, WITH_KNOT, value)

    def test_arguments_stay(self):
        steps = [[[2, 0, 1]], [[3, 0]], [(1, 3)], [(3, 2)]]
        self.assertEqual([1, 1], orders_of_steps(WITH_KNOT, steps))
        self.assertEqual([[[2, 0, 1]], [[3, 0]], [(1, 3)], [(3, 2)]], steps)


if __name__ == "__main__":
    unittest.main()
