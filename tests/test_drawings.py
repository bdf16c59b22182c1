"""The module drawings: points [16], [17], [22] and [26]."""

import unittest
from itertools import combinations

from bentlines.charts import Chart
from bentlines.drawings import Drawing
from bentlines.errors import BadKind, BadNumber, BadTurn, Unsound
from bentlines.links import closed, is_order, knots_of, ready
from tests.helpers import (NO_CHARTS, NO_INTEGERS, UNSOUND, DueCase, every_drawing, every_sound_chart, row_behind,
                           some_drawings)

FAN_OF_FOUR = ((0, 2), (1, 2), (0, 2), (2, 2), (1, 2), (0, 2))


def many_drawings():
    return [drawing for size in (1, 2, 3, 4) for drawing in every_drawing(size)] + larger_drawings()


def larger_drawings():
    return [drawing for size in (5, 6, 8, 11, 16) for drawing in some_drawings(size, 6)]


class MakingTest(DueCase):
    def test_attributes(self):
        for turns in (FAN_OF_FOUR, list(FAN_OF_FOUR), [list(turn) for turn in FAN_OF_FOUR]):
            drawing = Drawing(4, turns)
            self.assertEqual((4, FAN_OF_FOUR), (drawing.size, drawing.turns))
            self.assertEqual((6, list(FAN_OF_FOUR)), (len(drawing), list(drawing)))

    def test_copies(self):
        """[1] A drawing keeps a copy of its turns."""
        turns = [[0, 2]]
        drawing = Drawing(2, turns)
        turns[0][0] = 1
        turns.append([0, 2])
        self.assertEqual(((0, 2),), drawing.turns)

    def test_one_line(self):
        """[17] One line has one drawing, without turns."""
        for turns in ([], ()):
            drawing = Drawing(1, turns)
            self.assertEqual((1, (), 0), (drawing.size, drawing.turns, len(drawing)))
        self.assertEqual([(0,)], list(drawing.rows()))
        self.assertEqual((), drawing.knots())
        self.assertEqual(Chart.fan(1), drawing.chart())
        self.assertEqual(drawing, drawing.mirrored())
        self.assertEqual(drawing, Drawing.of(Chart.fan(1)))
        self.due(BadTurn, {"at": 0}, Drawing, 1, [(0, 2)])
        self.due(BadTurn, {"at": 0}, Drawing, 1, [(0, 1)])

    def test_two_lines(self):
        self.assertEqual(((0, 2),), Drawing.of(Chart.fan(2)).turns)
        self.assertEqual([(0, 1), (1, 0)], list(Drawing(2, [(0, 2)]).rows()))
        self.due(BadTurn, {"at": 0}, Drawing, 2, [])
        self.due(BadTurn, {"at": 1}, Drawing, 2, [(0, 2), (0, 2)])

    def test_numbers_of_drawings(self):
        """[17] A drawing is a sequence of turns from the first row to the last."""
        self.assertEqual([1, 1, 3], [len(every_drawing(size)) for size in (1, 2, 3)])
        simple = [drawing for drawing in every_drawing(4) if drawing.chart().simple]
        self.assertEqual(16, len(simple))

    def test_size_then_kind(self):
        for size in (*NO_INTEGERS, 0, 17, -1):
            self.due(BadNumber, {"word": "size"}, Drawing, size, None)
            self.due(BadNumber, {"word": "size"}, Drawing.first_row, size)
        for turns in (None, 3, "02", {(0, 2): 1}, {(0, 2)}, range(0), True):
            self.due(BadKind, {"word": "turns"}, Drawing, 2, turns)

    def test_bad_turns(self):
        """[17] The first turn that has another form, does not fit or cannot be done is named."""
        for turn in (None, 3, "02", [], (0,), (0, 2, 2), (-1, 2), (0, 1), (0, 0), (0, 5), (3, 2), (False, 2),
                     (0, True), (0.0, 2), (0, "2"), {0: 1, 2: 3}):
            self.due(BadTurn, {"at": 0}, Drawing, 4, [turn, None])
            self.due(BadTurn, {"at": 2}, Drawing, 4, [(0, 2), (1, 2), turn, (0, 2)])
        self.due(BadTurn, {"at": 1}, Drawing, 4, [(0, 2), (0, 3), None])
        self.due(BadTurn, {"at": 6}, Drawing, 4, [*FAN_OF_FOUR, (0, 2)])
        self.due(BadTurn, {"at": 1}, Drawing, 16, [(0, 16), (0, 2)])

    def test_last_row_not_reached(self):
        for many in range(6):
            self.due(BadTurn, {"at": many}, Drawing, 4, FAN_OF_FOUR[:many])
        self.due(BadTurn, {"at": 0}, Drawing, 16, [])

    def test_first_row(self):
        for size in range(1, 17):
            self.assertEqual(tuple(range(size)), Drawing.first_row(size))

    def test_equality(self):
        one, other = every_drawing(3)[:2]
        self.assertTrue(one == Drawing(3, [list(turn) for turn in one.turns]))
        self.assertFalse(one == other)
        self.assertTrue(one != other)
        self.assertFalse(Drawing(1, []) == Drawing(2, [(0, 2)]))
        for value in (None, one.turns, list(one.turns), 3, Chart.fan(3)):
            self.assertIs(False, one == value)


class AskingTest(DueCase):
    def test_rows(self):
        """[16] The row behind each turn; the last one is the last row."""
        for drawing in many_drawings():
            row = tuple(range(drawing.size))
            rows = [row]
            for turn in drawing.turns:
                row = row_behind(row, turn)
                rows.append(row)
            self.assertEqual(rows, list(drawing.rows()))
            self.assertEqual(rows, [drawing.row_behind(many) for many in range(len(drawing) + 1)])
            self.assertEqual(tuple(range(drawing.size))[::-1], rows[-1])

    def test_row_behind_refuses(self):
        for many in (*NO_INTEGERS, -1, 7, 10 ** 299):
            self.due(BadNumber, {"word": "many"}, Drawing(4, FAN_OF_FOUR).row_behind, many)

    def test_knots(self):
        """[17] Each two lines change places in just one turn."""
        for drawing in many_drawings():
            knots = drawing.knots()
            rows = list(drawing.rows())
            told = [tuple(sorted(rows[at][p:p + m])) for at, (p, m) in enumerate(drawing.turns)]
            self.assertEqual(tuple(told), knots)
            pairs = [pair for knot in knots for pair in combinations(knot, 2)]
            self.assertEqual(list(combinations(range(drawing.size), 2)), sorted(pairs))

    def test_chart(self):
        """[17] The sign tells whether i and j change places earlier than j and k."""
        for drawing in many_drawings():
            when = {pair: at for at, knot in enumerate(drawing.knots()) for pair in combinations(knot, 2)}
            chart = drawing.chart()
            self.assertEqual(drawing.size, chart.size)
            for i, j, k in combinations(range(drawing.size), 3):
                first, second = when[i, j], when[j, k]
                self.assertEqual((first < second) - (first > second), chart.sign((i, j, k)))

    def test_charts_of_drawings_are_the_sound_ones(self):
        """[22] A chart is the chart of a drawing exactly if it is sound."""
        for size in (1, 2, 3, 4):
            found = {drawing.chart().marks for drawing in every_drawing(size)}
            self.assertEqual({chart.marks for chart in every_sound_chart(size)}, found)
        for drawing in larger_drawings():
            self.assertIs(True, drawing.chart().sound)

    def test_turns_are_the_knots(self):
        """[22] The lots of lines of the turns are just the knots, and they are an order ([23])."""
        for drawing in many_drawings():
            chart = drawing.chart()
            self.assertEqual(knots_of(chart), tuple(sorted(drawing.knots())))
            self.assertIs(True, is_order(chart, drawing.knots()))

    def test_lines_meet_in_the_order_of_turns(self):
        """[22] Each line meets the others in the order of its turns."""
        for drawing in many_drawings():
            chart = drawing.chart()
            for line in range(drawing.size):
                turns = [[x for x in knot if x != line] for knot in drawing.knots() if line in knot]
                for at, earlier in enumerate(turns):
                    for later in turns[at + 1:]:
                        for y in earlier:
                            for z in later:
                                sign = chart.sign(sorted((line, y, z)))
                                self.assertEqual(1, sign if y < z else -sign)

    def test_mirrored(self):
        """[26] The turns in the opposite order are a drawing; its chart is the mirrored chart."""
        for drawing in many_drawings():
            mirrored = drawing.mirrored()
            self.assertEqual(drawing.turns[::-1], mirrored.turns)
            self.assertEqual(drawing.chart().mirrored(), mirrored.chart())
            self.assertEqual(drawing, mirrored.mirrored())


class NormalTest(DueCase):
    def test_known_ones(self):
        self.assertEqual(FAN_OF_FOUR, Drawing.of(Chart.fan(4)).turns)
        self.assertEqual(((0, 3), (2, 2), (1, 2), (0, 2)), Drawing.of(Chart.told(4, "0+++")).turns)
        for size in range(2, 17):
            chart = Chart(size, [0] * (size * (size - 1) * (size - 2) // 6))
            self.assertEqual(((0, size),), Drawing.of(chart).turns)

    def test_it_has_the_chart(self):
        """[26] The normal drawing has the chart."""
        for drawing in many_drawings():
            chart = drawing.chart()
            normal = Drawing.of(chart)
            self.assertEqual(chart, normal.chart())
            self.assertEqual(normal, Drawing.of(normal.chart()))
        for size in range(1, 17):
            self.assertEqual(Chart.fan(size), Drawing.of(Chart.fan(size)).chart())

    def test_uppermost(self):
        """[26] Each turn is of that ready knot whose lines stand uppermost."""
        charts = every_sound_chart(4) + [drawing.chart() for drawing in some_drawings(6, 10) + some_drawings(9, 3)]
        for chart in charts:
            normal = Drawing.of(chart)
            knots = normal.knots()
            for at, knot in enumerate(knots):
                row = normal.row_behind(at)
                tops = {min(row.index(line) for line in other): other for other in ready(chart, knots[:at])}
                self.assertEqual(knot, tops[min(tops)])
                self.assertEqual((min(tops), len(knot)), normal.turns[at])

    def test_refusals(self):
        for value in NO_CHARTS:
            self.due(BadKind, {"word": "chart"}, Drawing.of, value)
        self.due(Unsound, {"four": (0, 1, 2, 3)}, Drawing.of, UNSOUND)
        self.due(Unsound, {"four": (2, 3, 4, 5)}, Drawing.of, Chart.fan(2) + UNSOUND)


class ReadyKnotsTest(DueCase):
    def test_prefixes(self):
        """[24] [25] Rows behind closed lots, and the knots that are ready there."""
        for drawing in many_drawings():
            chart = drawing.chart()
            knots = drawing.knots()
            where = {pair: knot for knot in knots for pair in combinations(knot, 2)}
            for at, row in enumerate(drawing.rows()):
                turned = knots[:at]
                self.assertEqual(tuple(sorted(turned)), closed(chart, turned))
                for a, b in combinations(range(drawing.size), 2):
                    self.assertIs(where[a, b] not in turned, row.index(a) < row.index(b))
                self.check_ready(row, ready(chart, turned), knots[at:])

    def check_ready(self, row, found, left):
        self.assertIs(found == (), left == ())
        lines = [line for knot in found for line in knot]
        self.assertEqual(len(lines), len(set(lines)))
        for knot in found:
            at = row.index(knot[0])
            self.assertEqual(knot, row[at:at + len(knot)])
            self.assertIn(knot, left)
        if left:
            self.assertIn(left[0], found)


if __name__ == "__main__":
    unittest.main()
