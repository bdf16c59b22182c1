"""The module sheets: points [201] to [203]."""

import unittest
from itertools import combinations, permutations, product

from bentlines.beside import beside_of
from bentlines.charts import Chart
from bentlines.drawings import Drawing
from bentlines.errors import (BadKind, BadLine, BadNumber, BadSigns, BentError, Degenerate, NotFar, NotPlace,
                              NotReady, NotSimple, NotTriangle, NothingDone, Parted, Refused, TooMany, Unsound)
from bentlines.exchanges import exchanged
from bentlines.lastlines import lots_along, order_of, put_in, taken_out
from bentlines.links import knots_of
from bentlines.loose import loosened
from bentlines.places import all_places
from bentlines.sheets import Sheet, Trial
from bentlines.shifts import shifted
from bentlines.through import names_through
from bentlines.ties import tied
from bentlines.triangles import turned_over
from tests.helpers import (NO_CHARTS, NO_INTEGERS, NO_LISTS, UNSOUND, WITH_KNOT, DueCase, drawn_charts, every_drawing,
                           every_lot, simple_charts, some_drawings)

FAN = Chart.fan(4)

# How the new chart comes from the old one, by the table of [201]; put_through and exchange stand apart.
MAKERS = {
    "turn_over": turned_over,
    "tie": tied,
    "loosen": loosened,
    "put": put_in,
    "take": taken_out,
    "roll": Chart.rolled,
    "mirror": Chart.mirrored,
    "half_turn": Chart.contrary,
    "shift": shifted,
    "lay_beside": beside_of,
    "become": lambda chart, other: Drawing.of(other).chart(),
}


def every_deed(chart):
    """Deeds with all arguments that may fit a small chart, and some that do not."""
    n = chart.size
    for three in combinations(range(n), 3):
        yield "turn_over", three
    for lot in every_lot(range(n)):
        yield "tie", lot
    for knot in knots_of(chart):
        yield "shift", knot
        for signs in product((1, -1), repeat=len(list(combinations(knot, 3)))):
            yield "loosen", knot, signs
    for name in range(n + 1):
        for order in permutations(range(n)):
            yield "put", name, order
    for line in range(n + 1):
        yield "take", line
    for times in (-3, 0, 1, n, 2 * n + 1):
        yield "roll", times
    yield ("mirror",)
    yield ("half_turn",)
    for other in (Chart.fan(1), WITH_KNOT, UNSOUND, Chart.fan(16), None):
        yield "lay_beside", other
        yield "become", other


def sheet_of(chart, **more):
    return Sheet(Drawing.of(chart), **more)


def state(sheet):
    return (sheet.drawing, sheet.chart(), sheet.done, sheet.records(), sheet.name, sheet.most)


class SheetCase(DueCase):
    def refused(self, sheet, error, attributes, word, *given):
        """The deed is refused, with this error as its cause; the sheet stays as it was."""
        before = state(sheet)
        refusal = self.due(Refused, {"word": word}, getattr(sheet, word), *given)
        self.assertIs(error, refusal.__cause__.__class__)
        for name, value in attributes.items():
            self.assertEqual(value, getattr(refusal.__cause__, name))
        self.assertEqual(before, state(sheet))
        trial = self.due(Refused, {"word": word}, sheet.tried, [(word, *given)])
        self.assertIs(error, trial.__cause__.__class__)
        self.assertEqual(before, state(sheet))


class DeedsTest(SheetCase):
    def check_deed(self, drawing, word, *given):
        """A deed does what its function does, or is refused with the error of the function."""
        sheet = Sheet(drawing)
        try:
            told = MAKERS[word](drawing.chart(), *given)
        except BentError as why:
            self.refused(sheet, why.__class__, vars(why), word, *given)
            return False
        self.assertEqual(told, sheet.tried([(word, *given)]))
        self.assertEqual((drawing, 0), (sheet.drawing, sheet.done))
        self.assertEqual(told, getattr(sheet, word)(*given))
        self.assertEqual((told, Drawing.of(told)), (sheet.chart(), sheet.drawing))
        self.assertEqual(((word,), 1), (sheet.records(), sheet.done))
        self.assertEqual(drawing.chart(), sheet.back())
        self.assertEqual((drawing.turns, (), 0), (sheet.drawing.turns, sheet.records(), sheet.done))
        return True

    def test_every_deed_on_small_charts(self):
        """[201] [202] All deeds on all sound charts of up to four lines, and simple ones of five lines."""
        done = {}
        for chart in [chart for size in (1, 2, 3, 4) for chart in drawn_charts(size)] + simple_charts(5)[::15]:
            drawing = Drawing.of(chart.mirrored()).mirrored()
            self.assertEqual(chart, drawing.chart())
            for deed in every_deed(chart):
                if deed[0] != "put" or chart.size < 5 or deed[2][0] == 3:
                    done.setdefault((deed[0], self.check_deed(drawing, *deed)), deed)
        for word in MAKERS:
            self.assertIn((word, True), done)
            if word not in ("roll", "mirror", "half_turn"):
                self.assertIn((word, False), done)

    def test_exchange(self):
        """[201] Behind exchange the drawing is the exchanged one, not the normal one."""
        for drawing in every_drawing(4) + some_drawings(7, 3):
            for at in range(-1, len(drawing.turns)):
                sheet = Sheet(drawing)
                try:
                    told = exchanged(drawing, at)
                except BentError as why:
                    self.refused(sheet, why.__class__, vars(why), "exchange", at)
                    continue
                self.assertEqual(drawing.chart(), sheet.tried((["exchange", at],)))
                self.assertEqual(drawing.chart(), sheet.exchange(at))
                self.assertEqual((told.turns, ("exchange",)), (sheet.drawing.turns, sheet.records()))
                sheet.back()
                self.assertEqual(drawing.turns, sheet.drawing.turns)

    def test_put_through(self):
        """[201] A line put in along both places, with any order that fits."""
        for chart in [chart for size in (1, 2, 3) for chart in drawn_charts(size)] + drawn_charts(4)[::3]:
            places = list(all_places(chart))
            for first in places:
                for second in places[::2]:
                    for name in range(chart.size + 1):
                        sheet = sheet_of(chart)
                        if name not in names_through(chart, first, second):
                            self.refused(sheet, Degenerate, {"word": "name"}, "put_through", first, second, name)
                            continue
                        made = sheet.put_through(list(first), second, name)
                        self.assertEqual((made, Drawing.of(made)), (sheet.chart(), sheet.drawing))
                        self.assertEqual(chart, taken_out(made, name))
                        lots = lots_along(chart.size, name, order_of(made, name))
                        self.assertLessEqual({first, second}, set(lots))
                        self.assertEqual(made, sheet_of(chart).tried([("put_through", first, second, name)]))
                        self.assertEqual(("put_through",), sheet.records())

    def test_normal_drawings(self):
        """[201] Behind every deed but exchange the drawing is the normal one, even if the chart stays."""
        drawing = [one for one in every_drawing(4) if one.chart() == FAN and one != Drawing.of(FAN)][0]
        for word, given in (("roll", [8]), ("become", [FAN]), ("loosen", [(0, 1), ()])):
            sheet = Sheet(drawing)
            self.assertEqual(FAN, getattr(sheet, word)(*given))
            self.assertEqual((Drawing.of(FAN).turns, 1), (sheet.drawing.turns, sheet.done))
            sheet.back()
            self.assertEqual(drawing.turns, sheet.drawing.turns)

    def test_refused_deeds(self):
        """[202] Each deed with wrong arguments, and the error behind it."""
        sheet = sheet_of(FAN)
        sheet.name = "four"
        sheet.roll(1)
        sheet.roll(-1)
        for word, given, error, attributes in (
                ("exchange", [6], BadNumber, {"word": "at"}), ("exchange", [0], NotFar, {"at": 0}),
                ("turn_over", [None], BadKind, {"word": "three"}),
                ("turn_over", [(0, 1, 3)], NotTriangle, {"three": (0, 1, 3)}),
                ("tie", [[0, 1]], BadKind, {"word": "lot"}), ("tie", [(3, 1, 0)], Parted, {"line": 2, "first": (0, 1)}),
                ("loosen", [(0, 1, 2), ()], BadKind, {"word": "knot"}), ("loosen", [(0, 1), [1]], BadSigns, {"at": -1}),
                ("put", [5, None], BadNumber, {"word": "name"}), ("put", [4, (0, 1)], BadKind, {"word": "order"}),
                ("put", [4, (2, 1, 3, 0)], NotPlace, {"three": (0, 2, 3)}),
                ("put_through", [[0, 9], None, None], BadNumber, {"word": "name"}),
                ("put_through", [[0, 9], None, 0], BadLine, {"line": 9}),
                ("put_through", [[0, 2], [1], 0], NotPlace, {"three": (0, 1, 2)}),
                ("put_through", [[0], [3], 0], Degenerate, {"word": "name"}),
                ("take", [4], BadLine, {"line": 4}), ("roll", [None], BadNumber, {"word": "times"}),
                ("shift", [(0, 3)], NotReady, {"knot": (0, 3)}), ("shift", [None], BadKind, {"word": "knot"}),
                ("lay_beside", [None], BadKind, {"word": "chart"}),
                ("lay_beside", [UNSOUND], Unsound, {"four": (0, 1, 2, 3)}),
                ("lay_beside", [Chart.fan(13)], TooMany, {"word": "lines"}),
                ("become", [None], BadKind, {"word": "chart"}), ("become", [UNSOUND], Unsound, {"four": (0, 1, 2, 3)})):
            self.refused(sheet, error, attributes, word, *given)
        self.refused(sheet_of(WITH_KNOT), NotSimple, {"knot": (0, 1, 2)}, "turn_over", (1, 2, 3))
        self.refused(sheet_of(Chart.fan(1)), BadKind, {"word": "lot"}, "take", 0)
        full = sheet_of(Chart.fan(16))
        self.refused(full, TooMany, {"word": "lines"}, "put", 0, list(range(16)))
        # The errors of the order through the places come ahead of the bound.
        self.refused(full, TooMany, {"word": "lines"}, "put_through", [0], [0], 3)
        self.refused(full, Degenerate, {"word": "name"}, "put_through", [0], [15], 0)

    def test_refusals_of_the_sheet(self):
        for value in (*NO_CHARTS, FAN, [(0, 2)]):
            self.due(BadKind, {"word": "drawing"}, lambda given: Sheet(given, most=0), value)
        for value in (*NO_INTEGERS, 0, -1, 501):
            self.due(BadNumber, {"word": "most"}, lambda given: sheet_of(FAN, most=given), value)
        self.assertEqual([200, 1, 500], [sheet_of(FAN).most, sheet_of(FAN, most=1).most, sheet_of(FAN, most=500).most])


class KeptTest(SheetCase):
    def test_taken_back(self):
        """[203] Deeds are taken back one by one, each to the drawing ahead of it."""
        sheet = Sheet(some_drawings(5, 1)[0])
        seen = [sheet.drawing]
        for word, given in (("mirror", []), ("half_turn", []), ("become", [WITH_KNOT]), ("loosen", [(0, 1, 2), [-1]]),
                            ("put", [4, [3, 2, 1, 0]]), ("take", [0]), ("roll", [3])):
            getattr(sheet, word)(*given)
            seen.append(sheet.drawing)
        told = ("mirror", "half_turn", "become", "loosen", "put", "take", "roll")
        for many in range(len(told), 0, -1):
            self.assertEqual((many, told[:many], seen[many]), (sheet.done, sheet.records(), sheet.drawing))
            self.assertEqual(seen[many - 1].chart(), sheet.back())
        self.assertEqual((0, (), seen[0].turns), (sheet.done, sheet.records(), sheet.drawing.turns))
        for _ in range(2):
            self.due(NothingDone, {}, sheet.back)
            self.assertEqual((0, (), seen[0]), (sheet.done, sheet.records(), sheet.drawing))

    def test_more_deeds_than_are_kept(self):
        """[203] The oldest is forgotten."""
        for most in (1, 2, 5):
            sheet = sheet_of(FAN, most=most)
            seen = [sheet.drawing]
            words = ["roll", "mirror", "half_turn", "roll", "roll", "half_turn", "mirror"]
            for at, word in enumerate(words, start=1):
                getattr(sheet, word)(*[1] * (word == "roll"))
                seen.append(sheet.drawing)
                kept = min(at, most)
                self.assertEqual((kept, tuple(words[at - kept:at])), (sheet.done, sheet.records()))
            for many in range(1, most + 1):
                self.assertEqual(seen[-1 - many].chart(), sheet.back())
                self.assertEqual(seen[-1 - many].turns, sheet.drawing.turns)
            self.due(NothingDone, {}, sheet.back)
        sheet = sheet_of(Chart.fan(2))
        for _ in range(203):
            sheet.half_turn()
        self.assertEqual(200, sheet.done)

    def test_a_refused_deed_is_not_kept(self):
        sheet = sheet_of(FAN, most=2)
        sheet.mirror()
        sheet.half_turn()
        self.refused(sheet, BadLine, {"line": 7}, "take", 7)
        self.assertEqual((-FAN, FAN, FAN), (sheet.chart(), sheet.back(), sheet.back()))

    def test_names(self):
        """The name may be assigned; what is no string is refused, and the name stays."""
        sheet = sheet_of(FAN)
        self.assertEqual("", sheet.name)
        sheet.name = "one"
        self.assertEqual("one", sheet.name)
        self.assertIsNone(sheet.call_it("two"))
        self.assertEqual("two", sheet.name)
        for value in (None, 3, ["x"], b"x", True):
            self.due(BadKind, {"word": "name"}, sheet.call_it, value)
            self.due(BadKind, {"word": "name"}, setattr, sheet, "name", value)
            self.assertEqual("two", sheet.name)
        sheet.mirror()
        sheet.back()
        self.assertEqual(("two", 0), (sheet.name, sheet.done))

    def test_properties_are_not_assigned_by_deeds_of_others(self):
        first, second = sheet_of(FAN), sheet_of(FAN)
        first.name = "first"
        first.mirror()
        self.assertEqual(("", 0, FAN), (second.name, second.done, second.chart()))


class TriedTest(SheetCase):
    def test_several_deeds(self):
        """[201] The chart behind the deeds, one after the other; the sheet stays."""
        drawing = some_drawings(5, 2)[1]
        sheet = Sheet(drawing)
        sheet.half_turn()
        before = state(sheet)
        turned = turned_over(FAN, (0, 1, 2))
        deeds = [("mirror",), ["become", FAN], ("exchange", 2), ("tie", [0, 1, 2]), ["loosen", (0, 1, 2), (-1,)],
                 ("lay_beside", WITH_KNOT), ("roll", -1)]
        for tried in (deeds, tuple(deeds)):
            self.assertEqual((turned + WITH_KNOT) << 1, sheet.tried(tried))
        self.assertEqual(sheet.chart(), sheet.tried([]))
        self.assertEqual(before, state(sheet))
        self.assertEqual([("mirror",), ["become", FAN]], deeds[:2])

    def test_many_deeds(self):
        """More deeds than are kept can be tried."""
        sheet = sheet_of(FAN, most=1)
        self.assertEqual(FAN, sheet.tried([("half_turn",)] * 600))

    def test_first_refused(self):
        """[202] The first deed that is refused, with its error."""
        sheet = sheet_of(FAN)
        refusal = self.due(Refused, {"word": "take"}, sheet.tried,
                           [("mirror",), ("take", 0), ("take", 3), ("become", None)])
        self.assertEqual((BadLine, 3), (refusal.__cause__.__class__, refusal.__cause__.line))
        self.assertEqual((FAN, 0), (sheet.chart(), sheet.done))

    def test_refusals(self):
        """BadKind for all forms first, ahead of what is refused."""
        sheet = sheet_of(FAN)
        counts = {"exchange": 1, "turn_over": 1, "tie": 1, "loosen": 2, "put": 2, "put_through": 3, "take": 1,
                  "roll": 1, "mirror": 0, "half_turn": 0, "shift": 1, "lay_beside": 1, "become": 1}
        wrong = [*NO_LISTS, [], (), "mirror", [None], [["mirror"]], ("back",), ("tried", []), ("chart",), ("name", "x"),
                 ("Mirror",), ("",), (0, 1), ("do_deed", "roll", [1]), ("call_it", "x"), ({}, 1)]
        for word, many in counts.items():
            if many:
                self.due(Refused, {"word": word}, sheet.tried, [(word, *[None] * many), ("take", 9)])
            wrong += [(word, *[None] * other) for other in range(5) if other != many]
        for value in NO_LISTS:
            self.due(BadKind, {"word": "deeds"}, sheet.tried, value)
        for value in wrong:
            self.due(BadKind, {"word": "deeds"}, sheet.tried, [value])
            self.due(BadKind, {"word": "deeds"}, sheet.tried, [("take", 99), value])
        self.due(BadKind, {"word": "deeds"}, sheet.tried, ("mirror",))
        self.assertEqual((FAN, 0), (sheet.chart(), sheet.done))


class TrialTest(SheetCase):
    def test_the_sheet_is_as_before(self):
        sheet = Sheet(some_drawings(5, 3)[2], most=3)
        sheet.name = "kept"
        sheet.mirror()
        sheet.half_turn()
        before = state(sheet)
        with Trial(sheet) as held:
            self.assertIs(sheet, held)
            held.become(FAN)
            held.turn_over((0, 1, 2))
            held.roll(1)
            held.roll(1)
            held.name = "other"
            self.assertEqual((3, "other"), (sheet.done, sheet.name))
        self.assertEqual(before, state(sheet))
        self.assertEqual(before[0].turns, sheet.drawing.turns)
        self.assertEqual("mirror", sheet.records()[0])
        sheet.back()
        sheet.back()
        self.assertEqual(some_drawings(5, 3)[2].turns, sheet.drawing.turns)

    def test_an_error_leaves_the_block(self):
        """The error is not held back, whatever it is."""
        for error in (KeyError, BentError, ZeroDivisionError):
            sheet = sheet_of(FAN)
            sheet.roll(2)
            before = state(sheet)
            with self.assertRaises(error):
                with Trial(sheet) as held:
                    held.half_turn()
                    held.back()
                    held.back()
                    held.call_it("x")
                    raise error()
            self.assertEqual(before, state(sheet))
        sheet = sheet_of(FAN)
        with self.assertRaises(Refused):
            with Trial(sheet) as held:
                held.mirror()
                held.take(9)
        self.assertEqual((FAN, 0), (sheet.chart(), sheet.done))

    def test_the_beginning_of_the_block(self):
        """What counts is the beginning of the block, not when the trial was made; blocks may stand in blocks."""
        sheet = sheet_of(FAN)
        trial = Trial(sheet)
        sheet.half_turn()
        with trial:
            sheet.tie([0, 1, 2, 3])
            with Trial(sheet) as held:
                held.become(Chart.fan(2))
            self.assertEqual((Chart(4, [0] * 4), 2), (sheet.chart(), sheet.done))
        self.assertEqual((-FAN, ("half_turn",)), (sheet.chart(), sheet.records()))
        with trial:
            sheet.back()
        self.assertEqual((-FAN, ("half_turn",)), (sheet.chart(), sheet.records()))

    def test_refusals(self):
        for value in (*NO_CHARTS, FAN, Drawing.of(FAN)):
            self.due(BadKind, {"word": "sheet"}, Trial, value)


if __name__ == "__main__":
    unittest.main()
