"""The module texts: points [13] to [15]."""

import unittest
from itertools import combinations

from bentlines.charts import Chart
from bentlines.errors import BadKind, BadLine, BadNumber, BadSigns, BadText
from bentlines.texts import chart_from, chart_text, lot_from, lot_text
from tests.helpers import NO_CHARTS, NO_INTEGERS, NO_LISTS, UNSOUND, DueCase, every_chart, some_charts

NO_STRINGS = (None, 4, True, ["lines 1"], ("lines 1",), b"lines 1")


class TextCase(DueCase):
    def wrong(self, number, cause, call, *arguments):
        """The call raises BadText(number) with a cause of this class, or without one."""
        error = self.due(BadText, {"number": number}, call, *arguments)
        if cause is None:
            self.assertIsNone(error.__cause__, arguments)
        else:
            self.assertIs(cause, error.__cause__.__class__, arguments)


class ChartTextTest(TextCase):
    def test_text(self):
        """[13] The text of a chart."""
        self.assertEqual("lines 4\nsigns +-0+\n", chart_text(Chart.told(4, "+-0+")))
        self.assertEqual("lines 3\nsigns -\n", chart_text(Chart.told(3, "-")))
        self.assertEqual("lines 2\nsigns\n", chart_text(Chart.fan(2)))
        self.assertEqual("lines 1\nsigns\n", chart_text(Chart.fan(1)))
        self.assertEqual("lines 16\nsigns " + "+" * 560 + "\n", chart_text(Chart.fan(16)))

    def test_there_and_back(self):
        """[14] Reading the text of a chart gives the chart, sound or not."""
        for chart in every_chart(4) + some_charts(1, 1) + some_charts(2, 1) + some_charts(10, 3) + some_charts(16, 3):
            self.assertEqual(chart, chart_from(chart_text(chart)))

    def test_refusals(self):
        for value in NO_CHARTS:
            self.due(BadKind, {"word": "chart"}, chart_text, value)
        for value in NO_STRINGS:
            self.due(BadKind, {"word": "text"}, chart_from, value)

    def test_blanks_and_empty_lines(self):
        """[14] Blanks at the ends and more blanks between do not matter, lines without a word are skipped."""
        for text in ("lines 4\nsigns +-++", "lines 4\nsigns +-++\n\n   \n", "\n  \n lines   4  \n\n  signs    +-++ ",
                     "   lines 4\n   signs +-++\n"):
            self.assertEqual(UNSOUND, chart_from(text))
        for text in ("lines 2\nsigns", "lines 2\nsigns\n", "\nlines 2\n \n signs  \n"):
            self.assertEqual(Chart.fan(2), chart_from(text))

    def test_missing_lines(self):
        """[14] If lines are missing, number is one more than the number of all lines."""
        for text, number in (("", 2), ("\n", 3), ("  \n \n ", 4), ("lines 4", 2), ("lines 4\n", 3), ("\n\nlines 4", 4),
                             ("lines 1", 2)):
            self.wrong(number, None, chart_from, text)

    def test_first_line(self):
        """[14] The first line has just the words lines and the size."""
        for line in ("line 4", "Lines 4", "4", "lines", "lines 4 4", "signs +-++", "lines4", "4 lines", "x y",
                     "lines x y", "line x"):
            self.wrong(1, None, chart_from, line + "\nsigns +-++\n")
            self.wrong(3, None, chart_from, "\n \n" + line + "\nx")

    def test_size(self):
        """[14] The size is written without sign or leading zeros; else the cause is a BadNumber."""
        for word in ("0", "17", "04", "+4", "-4", "4.0", "x", "4x", "four", "1" * 400, "1_0", "00"):
            self.wrong(1, BadNumber, chart_from, f"lines {word}\nsigns +-++\n")
            self.wrong(2, BadNumber, chart_from, f"\nlines {word}")
        for size in range(1, 17):
            self.assertEqual(Chart.fan(size), chart_from(f"lines {size}\nsigns {Chart.fan(size).marks}"))

    def test_second_line(self):
        """[14] The second line has the word signs and a word with all signs."""
        for line in ("sign +-++", "Signs +-++", "+-++", "signs +-++ +", "signs +- ++", "lines 4", "signs+-++", "x",
                     "sign", "signs x y"):
            self.wrong(2, None, chart_from, "lines 4\n" + line)
            self.wrong(3, None, chart_from, "lines 4\n\n" + line + "\nthird")

    def test_signs(self):
        """[14] A wrong length or another character has a BadSigns as its cause."""
        for word in ("+-+", "+-+++", "", "+-+x", "+-+1", "xxxx", "lines"):
            self.wrong(2, BadSigns, chart_from, "lines 4\nsigns " + word)
            self.wrong(4, BadSigns, chart_from, "lines 4\n\n \nsigns " + word + "\nthird line")
        self.wrong(2, BadSigns, chart_from, "lines 2\nsigns +")
        self.wrong(2, BadSigns, chart_from, "lines 4\nsigns")

    def test_third_line(self):
        """[14] There must be no third line."""
        self.wrong(3, None, chart_from, "lines 4\nsigns +-++\nx")
        self.wrong(5, None, chart_from, "lines 4\nsigns +-++\n\n  \n signs +-++\nmore")
        self.wrong(3, None, chart_from, "lines 1\nsigns\nsigns")


class LotTextTest(TextCase):
    def test_text(self):
        """[15] Names in ascending order with one blank between; the empty lot is none."""
        self.assertEqual("none", lot_text([]))
        self.assertEqual("none", lot_text(()))
        self.assertEqual("0", lot_text([0]))
        self.assertEqual("2 10 15", lot_text((15, 2, 10)))
        self.assertEqual(" ".join(map(str, range(16))), lot_text(list(range(15, -1, -1))))

    def test_text_refuses(self):
        for value in NO_LISTS:
            self.due(BadKind, {"word": "lot"}, lot_text, value)
        for value in (*NO_INTEGERS, 16, -1):
            self.due(BadLine, {"line": value}, lot_text, [0, value, 0])
        self.due(BadLine, {"line": 5}, lot_text, [5, 5])

    def test_there_and_back(self):
        for many in range(6):
            for lot in combinations(range(5), many):
                self.assertEqual(lot, lot_from(lot_text(lot), 5))
        self.assertEqual(tuple(range(16)), lot_from(lot_text(list(range(16))), 16))

    def test_reading(self):
        """[15] Names in any order, blanks as in [14]."""
        self.assertEqual((0, 2, 3), lot_from("3 0 2", 4))
        self.assertEqual((0, 2, 15), lot_from("   15  0   2 ", 16))
        self.assertEqual((0,), lot_from("0", 1))
        self.assertEqual((), lot_from("none", 1))
        self.assertEqual((), lot_from("  none ", 16))

    def test_wrong_words(self):
        """[15] Otherwise BadText(1), with a BadLine as its cause if there is a word."""
        for text in ("4", "0 4", "-1", "01", "+1", "1 1", "0 1 0", "none none", "none 1", "1 none", "None", "x",
                     "1,2", "1\n2", "1\n", "\n", "none\n", "\nnone", "1 \n 2", "1.0", "9" * 400):
            self.wrong(1, BadLine, lot_from, text, 4)

    def test_no_word(self):
        for text in ("", " ", "     "):
            self.wrong(1, None, lot_from, text, 4)

    def test_kind_then_size(self):
        for value in NO_STRINGS:
            self.due(BadKind, {"word": "text"}, lot_from, value, 4)
            self.due(BadKind, {"word": "text"}, lot_from, value, 0)
        for size in (*NO_INTEGERS, 0, 17, -1):
            self.due(BadNumber, {"word": "size"}, lot_from, "none", size)
            self.due(BadNumber, {"word": "size"}, lot_from, "", size)


if __name__ == "__main__":
    unittest.main()
