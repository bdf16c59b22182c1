"""The module exchanges: points [18] and [27]."""

import unittest
from itertools import combinations

from bentlines.charts import Chart
from bentlines.drawings import Drawing
from bentlines.errors import BadKind, BadNumber, Degenerate, NotFar
from bentlines.exchanges import exchange_way, exchanged, is_far, orders_apart
from tests.helpers import NO_CHARTS, NO_INTEGERS, DueCase, drawn_charts, every_drawing, some_drawings

FAN = Drawing.of(Chart.fan(4))


def told_far(drawing, at):
    """By the words of [18]: no stand in common."""
    (p, m), (q, k) = drawing.turns[at:at + 2]
    return not set(range(p, p + m)) & set(range(q, q + k))


def told_apart(drawing, other):
    """By the words of [27]: pairs of knots that have another order in the one than in the other."""
    one, two = drawing.knots(), other.knots()
    return sum((one.index(first) < one.index(second)) != (two.index(first) < two.index(second))
               for first, second in combinations(one, 2))


def exchanges_from(drawing):
    """All drawings that one exchange makes of the drawing."""
    return [exchanged(drawing, at) for at in range(len(drawing) - 1) if told_far(drawing, at)]


def exchanges_to_all(drawing):
    """The least numbers of exchanges to all drawings that can be reached, by their turns."""
    found = {drawing.turns: 0}
    layer = [drawing]
    while layer:
        layer = [other for one in layer for other in exchanges_from(one)]
        layer = [other for other in layer if other.turns not in found]
        many = max(found.values()) + 1
        for other in layer:
            found[other.turns] = many
    return found


def families(size):
    """The drawings of so many lines, those with the same chart together."""
    found = {}
    for drawing in every_drawing(size):
        found.setdefault(drawing.chart().marks, []).append(drawing)
    return list(found.values())


class ExchangedTest(DueCase):
    def test_far_turns(self):
        """[18] Exchanged far turns make another drawing with the same chart; others cannot be exchanged."""
        drawings = [drawing for size in (2, 3, 4, 5) for drawing in every_drawing(size)]
        for drawing in drawings + some_drawings(9, 4):
            for at in range(len(drawing) - 1):
                self.assertIs(told_far(drawing, at), is_far(drawing, at))
                if told_far(drawing, at):
                    self.check_exchanged(drawing, at)
                else:
                    self.due(NotFar, {"at": at}, exchanged, drawing, at)

    def check_exchanged(self, drawing, at):
        other = exchanged(drawing, at)
        turns = list(drawing.turns)
        turns[at], turns[at + 1] = turns[at + 1], turns[at]
        self.assertEqual(tuple(turns), other.turns)
        self.assertNotEqual(drawing, other)
        self.assertEqual(drawing.chart(), other.chart())
        self.assertEqual(drawing, exchanged(other, at))
        self.assertEqual(1, orders_apart(drawing, other))

    def test_side_by_side(self):
        """[18] Turns with stands side by side have none in common."""
        drawing = Drawing(4, ((0, 2), (2, 2), (1, 2), (0, 2), (2, 2), (1, 2)))
        self.assertEqual([True, False, False, True, False], [is_far(drawing, at) for at in range(5)])

    def test_refusals(self):
        for call in (is_far, exchanged):
            for value in NO_CHARTS:
                self.due(BadKind, {"word": "drawing"}, call, value, None)
            self.due(BadKind, {"word": "drawing"}, call, Chart.fan(4), 0)
            for value in (*NO_INTEGERS, -1, 5, 6, 10 ** 299):
                self.due(BadNumber, {"word": "at"}, call, FAN, value)
            for drawing in (Drawing(1, []), Drawing(2, [(0, 2)])):
                for value in (-1, 0, 1):
                    self.due(BadNumber, {"word": "at"}, call, drawing, value)
        self.assertIs(False, is_far(FAN, 4))
        self.due(NotFar, {"at": 4}, exchanged, FAN, 4)


class ApartTest(DueCase):
    def test_every_pair_of_drawings(self):
        """[27] Exchanges lead to just the drawings with the same chart, by as many as they are apart."""
        drawings = 0
        for family in families(4) + families(3):
            drawings += len(family)
            for drawing in family:
                least = exchanges_to_all(drawing)
                self.assertEqual({other.turns for other in family}, set(least))
                for other in family:
                    self.assertEqual(least[other.turns], orders_apart(drawing, other))
                    self.check_way(drawing, other)
        self.assertEqual(25 + 3, drawings)

    def test_five_lines(self):
        """[27] So many exchanges are needed, and suffice."""
        for family in families(5):
            drawing = family[len(family) // 2]
            least = exchanges_to_all(drawing)
            self.assertEqual({other.turns for other in family}, set(least))
            for other in family:
                self.assertEqual(least[other.turns], orders_apart(drawing, other))
                self.check_way(drawing, other)

    def check_way(self, drawing, other):
        """Each exchange of a way makes the drawings apart by one less, down to none."""
        way = exchange_way(drawing, other)
        self.assertIsInstance(way, list)
        self.assertEqual(told_apart(drawing, other), orders_apart(drawing, other))
        for done, at in enumerate(way):
            self.assertEqual(len(way) - done, orders_apart(drawing, other))
            drawing = exchanged(drawing, at)
        self.assertEqual(drawing, other)

    def test_larger_drawings(self):
        for drawing in some_drawings(7, 6):
            other = Drawing.of(drawing.chart())
            self.check_way(drawing, other)
            self.check_way(other, drawing)

    def test_sixteen_lines(self):
        for drawing in some_drawings(16, 1) + [Drawing.of(Chart.fan(16)).mirrored()]:
            other = Drawing.of(drawing.chart())
            way = exchange_way(drawing, other)
            self.assertEqual(len(way), orders_apart(drawing, other))
            turns = list(drawing.turns)
            for at in way:
                turns[at], turns[at + 1] = turns[at + 1], turns[at]
            self.assertEqual(other, Drawing(16, turns))

    def test_equal_drawings(self):
        for drawing in (Drawing(1, []), Drawing(2, [(0, 2)]), FAN):
            again = Drawing(drawing.size, list(drawing.turns))
            self.assertEqual((0, []), (orders_apart(drawing, again), exchange_way(drawing, again)))

    def test_new_lists(self):
        other = exchanged(FAN, 2)
        way = exchange_way(FAN, other)
        way.append(5)
        self.assertEqual([2], exchange_way(FAN, other))

    def test_other_charts(self):
        """Drawings with unlike charts are not compared, of whatever size they are."""
        normal = [Drawing.of(chart) for chart in drawn_charts(4)] + [Drawing(1, []), Drawing(2, [(0, 2)])]
        for call in (orders_apart, exchange_way):
            for drawing in normal:
                for other in normal:
                    if drawing is not other:
                        self.due(Degenerate, {"word": "charts"}, call, drawing, other)

    def test_refusals(self):
        for call in (orders_apart, exchange_way):
            for value in (*NO_CHARTS, Chart.fan(4)):
                self.due(BadKind, {"word": "drawing"}, call, value, FAN)
                self.due(BadKind, {"word": "drawing"}, call, FAN, value)


if __name__ == "__main__":
    unittest.main()
