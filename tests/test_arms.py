"""The module arms: point [96]."""

import unittest
from itertools import product

from bentlines.arms import arm_of, arms
from bentlines.charts import Chart
from bentlines.errors import BadKind, BadLine, BadNumber, NotSimple, TooMany, Unsound
from bentlines.shallow import shallow_list
from tests.helpers import (NO_CHARTS, NO_INTEGERS, UNSOUND, WITH_KNOT, DueCase, lots, simple_charts,
                           some_simple_charts)

PLUS = ("AAC", "CCB", "CBB")
MINUS = ("ACC", "AAB", "ABB", "ACB")


def told_arms(a, b, c, inner):
    """The chart of [96], three by three."""
    word = "A" * a + "C" * c + "B" * b
    first = {"A": 0, "C": a, "B": a + c}
    charts = dict(zip("ABC", inner))
    signs = []
    for three in lots(len(word), 3):
        told = "".join(word[x] for x in three)
        if told in PLUS or told in MINUS:
            signs.append(1 if told in PLUS else -1)
        elif told[0] in charts:
            signs.append(charts[told[0]].sign([x - first[told[0]] for x in three]))
        else:
            signs.append(1)
    return Chart(len(word), signs)


class ArmsTest(DueCase):
    def test_small_arms(self):
        """[96] The signs, with all inner charts and without; the chart is sound, simple and least shallow."""
        for a, b, c in product((1, 2, 3), repeat=3):
            for inner in product(*[simple_charts(size) for size in (a, b, c)]):
                for many in range(4):
                    chart = arms(a, b, c, inner=list(inner[:many]))
                    self.assertEqual(told_arms(a, b, c, inner[:many]), chart)
                    self.check_least(chart, min(a, b, c))
            self.assertEqual(arms(a, b, c), arms(a, b, c, inner=()))

    def test_large_arms(self):
        for a, b, c in ((4, 5, 4), (5, 4, 6), (5, 6, 5), (1, 1, 14), (14, 1, 1), (1, 14, 1)):
            inner = [some_simple_charts(size, 2)[-1] for size in (a, b, c)]
            for many in (0, 1, 2, 3):
                chart = arms(a, b, c, inner=tuple(inner[:many]))
                self.assertEqual(told_arms(a, b, c, inner[:many]), chart)
                self.check_least(chart, min(a, b, c))

    def check_least(self, chart, most):
        self.assertTrue(chart.sound and chart.simple)
        for k, many in enumerate(shallow_list(chart)[:most + 1]):
            self.assertEqual(3 * k * (k + 1) // 2, many)

    def test_inner_charts_in_their_order(self):
        """A, then B, then C, although the lines of C stand between."""
        minus = -Chart.fan(3)
        for at, lines in ((0, [0, 1, 2]), (1, [6, 7, 8]), (2, [3, 4, 5])):
            inner = [Chart.fan(3)] * at + [minus]
            chart = arms(3, 3, 3, inner=inner)
            self.assertEqual(minus, chart.part(lines))
            self.assertEqual([1, 1], [chart.sign(three) for three in ([0, 1, 2], [3, 4, 5], [6, 7, 8])
                                      if three != lines])

    def test_refused_numbers(self):
        for value in (*NO_INTEGERS, 0, -1):
            self.due(BadNumber, {"word": "a"}, arms, value, 0, 0)
            self.due(BadNumber, {"word": "b"}, arms, 99, value, 0)
            self.due(BadNumber, {"word": "c"}, arms, 99, 99, value)
            self.due(BadNumber, {"word": "a"}, arm_of, value, 0, 0, None)
            self.due(BadNumber, {"word": "b"}, arm_of, 99, value, 0, None)
            self.due(BadNumber, {"word": "c"}, arm_of, 99, 99, value, None)

    def test_refused_inner_charts(self):
        def inner_due(error, attributes, a, b, c, inner):
            self.due(error, attributes, lambda: arms(a, b, c, inner=inner))

        fan = Chart.fan(2)
        for value in (None, 3, "222", {0: fan}, fan, {1}):
            inner_due(BadKind, {"word": "inner"}, 9, 9, 9, value)
        inner_due(BadKind, {"word": "inner"}, 2, 2, 2, [fan] * 4)
        for value in NO_CHARTS:
            inner_due(BadKind, {"word": "inner"}, 9, 9, 9, [value])
            inner_due(BadKind, {"word": "inner"}, 4, 2, 2, (UNSOUND, value, fan))
        inner_due(BadKind, {"word": "inner"}, 3, 2, 2, [fan])
        inner_due(BadKind, {"word": "inner"}, 2, 3, 2, [fan, fan])
        inner_due(BadKind, {"word": "inner"}, 2, 2, 1, [fan, fan, fan])
        inner_due(BadKind, {"word": "inner"}, 10 ** 90, 2, 2, [fan])
        inner_due(TooMany, {"word": "lines"}, 4, 4, 9, [UNSOUND, WITH_KNOT])
        inner_due(TooMany, {"word": "lines"}, 10 ** 90, 1, 1, ())
        inner_due(Unsound, {"four": (0, 1, 2, 3)}, 4, 4, 4, [WITH_KNOT, UNSOUND, Chart.told(4, "+-+-")])
        inner_due(Unsound, {"four": (1, 2, 3, 4)}, 3, 5, 4, [Chart(3, [0]), Chart.fan(1) + UNSOUND, UNSOUND])
        inner_due(NotSimple, {"knot": (0, 1, 2)}, 4, 4, 4, [Chart.fan(4), WITH_KNOT, Chart(4, [0] * 4)])

    def test_arguments_stay(self):
        inner = [-Chart.fan(3), Chart.fan(1)]
        arms(3, 1, 2, inner=inner)
        self.assertEqual([-Chart.fan(3), Chart.fan(1)], inner)


class ArmOfTest(DueCase):
    def test_lines(self):
        """[96] The first a lines are A, the next c lines C, the last b lines B."""
        for a, b, c in list(product((1, 2, 3), repeat=3)) + [(4, 5, 7), (1, 1, 14)]:
            self.assertEqual("A" * a + "C" * c + "B" * b,
                             "".join(arm_of(a, b, c, line) for line in range(a + b + c)))

    def test_refusals(self):
        for value in (*NO_INTEGERS, -1, 6):
            self.due(BadLine, {"line": value}, arm_of, 1, 2, 3, value)
        self.due(BadLine, {"line": 17}, arm_of, 15, 1, 1, 17)
        self.due(TooMany, {"word": "lines"}, arm_of, 15, 1, 1, 16)
        self.due(TooMany, {"word": "lines"}, arm_of, 10 ** 90, 1, 1, 0)


if __name__ == "__main__":
    unittest.main()
