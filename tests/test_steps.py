"""The module steps: point [28]."""

import random
import unittest
from itertools import permutations, product

from bentlines.charts import Chart
from bentlines.errors import BadKind
from bentlines.steps import is_steps, longest_chain, steps_of
from tests.helpers import (NO_CHARTS, NO_KNOTS, NO_LISTS, UNSOUND, WITH_KNOT, DueCase, drawn_charts, large_charts,
                           small_charts, told_before, told_knots, told_linked)


def told_steps(chart):
    """The earliest steps by the words of [28]: each list has all knots that are ready then."""
    before = told_before(chart)
    done = []
    steps = []
    while len(done) < len(before):
        steps.append(sorted(knot for knot in before if knot not in done and before[knot] <= set(done)))
        done = done + steps[-1]
    return steps


def told_is_steps(chart, steps):
    """Whether these are steps, by the words of [28]."""
    before = told_before(chart)
    done = []
    for step in steps:
        if not all(before[knot] <= set(done) and knot not in done for knot in step) or len(set(step)) != len(step):
            return False
        done = done + list(step)
    return sorted(done) == sorted(before)


def longest_way(chart):
    """How many knots a longest chain has, found by trying all."""
    knots = told_knots(chart)
    after = {knot: [other for other in knots if told_linked(chart, knot, other)] for knot in knots}

    def from_here(knot):
        return 1 + max([from_here(other) for other in after[knot]], default=0)

    return max([from_here(knot) for knot in knots], default=0)


def dealt(chart, many):
    """All ways to deal the knots to so many lists."""
    knots = told_knots(chart)
    for places in product(range(many), repeat=len(knots)):
        yield [[knot for knot, at in zip(knots, places) if at == step] for step in range(many)]


class EarliestStepsTest(DueCase):
    def test_all_that_are_ready(self):
        for chart in small_charts() + large_charts():
            found = steps_of(chart)
            self.assertEqual(told_steps(chart), found)
            self.assertIsInstance(found, list)
            self.assertEqual({list} if found else set(), {step.__class__ for step in found})
            self.assertIs(True, is_steps(chart, found))
            for step in found:
                lines = [line for knot in step for line in knot]
                self.assertEqual(len(lines), len(set(lines)))

    def test_known_steps(self):
        self.assertEqual([], steps_of(Chart.fan(1)))
        self.assertEqual([[(0, 1)]], steps_of(Chart.fan(2)))
        self.assertEqual([[(0, 1, 2)], [(0, 3)], [(1, 3)], [(2, 3)]], steps_of(WITH_KNOT))
        self.assertEqual([[tuple(range(16))]], steps_of(Chart(16, [0] * 560)))
        self.assertEqual(29, len(steps_of(Chart.fan(16))))

    def test_new_lists(self):
        found = steps_of(WITH_KNOT)
        found[0].append(None)
        found.append([])
        self.assertEqual([[(0, 1, 2)], [(0, 3)], [(1, 3)], [(2, 3)]], steps_of(WITH_KNOT))
        chain = longest_chain(WITH_KNOT)
        chain.append(None)
        self.assertEqual([(0, 1, 2), (0, 3), (1, 3), (2, 3)], longest_chain(WITH_KNOT))

    def test_refusals(self):
        self.asks_for_chart(steps_of)
        self.asks_for_soundness(steps_of)


class IsStepsTest(DueCase):
    def test_every_way_to_deal(self):
        """[28] All knots, each once, and each ready behind all lists before its own; lists may be empty."""
        for chart in drawn_charts(3) + [WITH_KNOT, Chart.told(4, "---0"), Chart(4, [0] * 4), Chart.fan(2)]:
            for many in range(6):
                for steps in dealt(chart, many):
                    self.assertIs(told_is_steps(chart, steps), is_steps(chart, steps))

    def test_no_steps_have_fewer_lists(self):
        for chart in drawn_charts(3) + [WITH_KNOT, Chart.told(4, "+++0")]:
            least = min(many for many in range(7) if any(is_steps(chart, steps) for steps in dealt(chart, many)))
            self.assertEqual(len(steps_of(chart)), least)

    def test_some_ways_of_more_lines(self):
        source = random.Random(7)
        for chart in drawn_charts(4) + [Chart.fan(5)]:
            early = [knot for step in told_steps(chart) for knot in step]
            for _ in range(60):
                steps = [[] for _ in range(len(early) + 2)]
                at = 0
                for knot in early:
                    at = max(0, at + source.choice((-1, 0, 1, 1, 1)))
                    steps[min(at, len(steps) - 1)].append(list(knot[::-1]))
                told = [[tuple(sorted(knot)) for knot in step] for step in steps]
                self.assertIs(told_is_steps(chart, told), is_steps(chart, tuple(steps)))

    def test_orders_are_steps(self):
        for chart in drawn_charts(3) + [WITH_KNOT]:
            for order in permutations(told_knots(chart)):
                steps = [(knot,) for knot in order]
                self.assertIs(told_is_steps(chart, steps), is_steps(chart, steps))

    def test_empty_lists(self):
        for steps in ([], [[]], ((), [], ())):
            self.assertIs(True, is_steps(Chart.fan(1), steps))
            self.assertIs(False, is_steps(Chart.fan(2), steps))
        self.assertIs(True, is_steps(WITH_KNOT, [[], [(2, 1, 0)], [], [[3, 0]], [], [(1, 3)], ((3, 2),), []]))

    def test_missing_and_twice(self):
        good = [[(0, 1, 2)], [(0, 3)], [(1, 3)], [(2, 3)]]
        self.assertIs(True, is_steps(WITH_KNOT, good))
        for steps in (good[:3], good[1:], good + [[(2, 3)]], good + [[(0, 1, 2)]], good[:3] + [[(2, 3), [3, 2]]]):
            self.assertIs(False, is_steps(WITH_KNOT, steps))
        self.assertIs(False, is_steps(WITH_KNOT, [[(0, 1, 2), (0, 3)], [(1, 3)], [(2, 3)]]))

    def test_refusals(self):
        self.asks_for_chart(is_steps, None)
        for value in NO_LISTS:
            self.due(BadKind, {"word": "steps"}, is_steps, UNSOUND, value)
            self.due(BadKind, {"word": "steps"}, is_steps, UNSOUND, [[None], value])
        self.asks_for_soundness(is_steps, [[None]])
        for value in NO_KNOTS:
            self.due(BadKind, {"word": "knot"}, is_steps, WITH_KNOT, [[], [(2, 3), (2, 3)], [(0, 3), value]])
        for value in NO_CHARTS:
            self.due(BadKind, {"word": "chart"}, is_steps, value, [[]])

    def test_arguments_stay(self):
        steps = [[[2, 1, 0]], [], [[3, 0]], [[3, 1]], [[3, 2]]]
        is_steps(WITH_KNOT, steps)
        self.assertEqual([[[2, 1, 0]], [], [[3, 0]], [[3, 1]], [[3, 2]]], steps)


class LongestChainTest(DueCase):
    def test_chains(self):
        """[28] Each knot is linked to the next; a longest chain has as many knots as there are earliest steps."""
        for chart in small_charts() + large_charts():
            chain = longest_chain(chart)
            self.assertIsInstance(chain, list)
            self.assertEqual(len(told_steps(chart)), len(chain))
            for knot, other in zip(chain, chain[1:]):
                self.assertIs(True, told_linked(chart, knot, other))
            for knot in chain:
                self.assertIn(knot, told_knots(chart))

    def test_none_is_longer(self):
        for chart in small_charts():
            self.assertEqual(longest_way(chart), len(longest_chain(chart)))

    def test_known_chains(self):
        self.assertEqual([], longest_chain(Chart.fan(1)))
        self.assertEqual([(0, 1)], longest_chain(Chart.fan(2)))
        self.assertEqual([(0, 1), (0, 2), (1, 2)], longest_chain(Chart.fan(3)))

    def test_refusals(self):
        self.asks_for_chart(longest_chain)
        self.asks_for_soundness(longest_chain)


if __name__ == "__main__":
    unittest.main()
