"""The module fives: points [190] and [191]."""

import random
import unittest
from itertools import permutations

from bentlines.charts import Chart
from bentlines.errors import BadKind, BadLine
from bentlines.fives import Ninth, Paper, Tellings, Tenth, five_numbers, tellings, threes_of
from bentlines.loose import loosened
from bentlines.ninths import is_ninth, is_tenth, nine_points, ten_points
from bentlines.ratios import Ratio
from bentlines.straights import Points, Straight, three_number
from tests.helpers import (NO_CHARTS, NO_INTEGERS, NO_LISTS, UNSOUND, DueCase, drawn_charts, large_charts)
from tests.test_ninths import DESARGUES, PAPPUS, spots_given
from tests.test_ratios import fraction
from tests.test_straights import NO_STRAIGHTS, straight_of, told_lines

# What is no product.
NO_PRODUCTS = ("f", "", "FG", "I", None, 0, 1, ("F",), ["F"])

BENT = loosened(nine_points(*PAPPUS)[0].chart(), (2, 4, 6), [1])
NAMES = nine_points(*PAPPUS)[1]
# Entries that clash in this chart: one strict one, counted twice, and equal products all around it.
BENT_ENTRIES = (((6, 0, 1, 2, 4), "H", "G", True), ((0, 1, 2, 5, 6), "G", "F", False),
                ((0, 1, 4, 6, 8), "F", "H", False), ((1, 0, 2, 3, 6), "F", "G", False),
                ((1, 0, 4, 6, 7), "H", "F", False), ((1, 0, 5, 6, 8), "H", "F", False),
                ((6, 0, 1, 3, 8), "G", "H", False), ((0, 1, 3, 6, 7), "F", "H", False),
                ((6, 0, 1, 5, 7), "G", "H", False))
# A simple chart that no straight has, and strict entries that clash in it; one of them is needed twice.
SIMPLE = Chart.told(9, "---------+---++++++-------+++++++++++++++-+--+-+++++++++-+----+++-------++----++++++")
SIMPLE_ENTRIES = """01245HF 01478FH 02348GH 10234FG 10258HG 12457HF 20456HF 20457FH 20568HG 21378HG 24678GH
    30178FH 34568HG 40178GF 40267GF 40278GF 40378FG 40568FG 41278FH 41278FH 41378HF 51278GF 51478GF 61348HF
    61378FH 63578GF 70238FH 71348FH 71468HG 71568GF 72568GF 82367FG 83567FH""".split()
SIMPLE_ENTRIES = [(tuple(map(int, word[:5])), word[5], word[6], True) for word in SIMPLE_ENTRIES]


def told_factors(five):
    """The factors of the products, by the words of [190]."""
    a, b, c, d, e = five
    return {"F": ((a, b, c), (a, d, e)), "G": ((a, b, d), (a, c, e)), "H": ((a, b, e), (a, c, d))}


def told_tellings(chart, five):
    """The tellings, case by case as [190] lists them."""
    f, g, h = [chart.sign(one) * chart.sign(two) for one, two in told_factors(five).values()]
    if f and g and h:
        if f == h:
            return (("F", "G", True), ("H", "G", True))
        if g == f:
            return (("G", "F", True), ("H", "F", True))
        return (("F", "H", True), ("G", "H", True))
    if [f, g, h].count(0) == 1:
        first, second = [word for word, sign in zip("FGH", (f, g, h)) if sign]
        return ((first, second, False), (second, first, False))
    return ()


def sign_of_order(names):
    falling = [1 for at, name in enumerate(names) for other in names[:at] if other > name]
    return (-1) ** len(falling)


def some_fives(size):
    return list(permutations(range(size), 5))[::1 if size == 5 else 37 if size < 9 else 4001]


class TellingsOfFivesTest(DueCase):
    def test_every_small_chart(self):
        """[190] What the signs of the three products tell."""
        for chart in drawn_charts(5)[::4] + [Chart.fan(5), Chart(5, [0] * 10)] + large_charts()[::2]:
            for five in some_fives(chart.size):
                self.assertEqual(told_tellings(chart, five), tellings(chart, list(five)))

    def test_straights(self):
        """[190] In every straight F + H = G, and the tellings of its chart hold."""
        kinds = set()
        for lines in told_lines():
            straight = straight_of(*lines)
            if straight.size < 5:
                continue
            chart = straight.chart()
            for five in some_fives(straight.size):
                numbers = five_numbers(straight, five)
                self.assertEqual([Ratio] * 3, [number.__class__ for number in numbers])
                told = [fraction(three_number(straight, one)) * fraction(three_number(straight, two))
                        * sign_of_order(one) * sign_of_order(two) for one, two in told_factors(five).values()]
                self.assertEqual(told, [fraction(number) for number in numbers])
                self.assertEqual(told[1], told[0] + told[2])
                by_word = dict(zip("FGH", told))
                for lesser, greater, strict in tellings(chart, five):
                    low, high = abs(by_word[lesser]), abs(by_word[greater])
                    self.assertTrue(0 < low < high if strict else 0 < low == high)
                kinds.add(tellings(chart, five))
        self.assertEqual(7, len(kinds))

    def test_factors(self):
        """[190] The two factors, in the order written, each ascending."""
        for five in (*some_fives(5), (15, 0, 7, 3, 9), [4, 3, 2, 1, 0]):
            for word, told in told_factors(five).items():
                self.assertEqual(tuple(tuple(sorted(three)) for three in told), threes_of(five, word))

    def asks_for_five(self, call, size, *others):
        for value in (*NO_LISTS, [], [0, 1, 2, 3], (0, 1, 2, 3, 4, 5), [9] * 4):
            self.due(BadKind, {"word": "five"}, call, value, *others)
        for value in (*NO_INTEGERS, size, -1):
            self.due(BadLine, {"line": value}, call, (0, value, 99, 99, 99), *others)
        self.due(BadLine, {"line": 1}, call, [1, 0, 1, 0, 0], *others)

    def test_refusals(self):
        self.asks_for_chart(tellings, None)
        self.asks_for_five(lambda five: tellings(UNSOUND + Chart.fan(1), five), 5)
        self.asks_for_soundness(lambda chart: tellings(chart + Chart.fan(1), [4, 3, 2, 1, 0]))
        for value in NO_STRAIGHTS:
            self.due(BadKind, {"word": "straight"}, five_numbers, value, None)
        straight = Straight(list(range(5)), [0, 3, 1, 1, 2])
        self.asks_for_five(lambda five: five_numbers(straight, five), 5)
        self.asks_for_five(threes_of, 16, None)
        for value in NO_PRODUCTS:
            self.due(BadKind, {"word": "word"}, threes_of, (0, 1, 2, 3, 15), value)


class PaperTest(DueCase):
    def test_plain_paper(self):
        for chart in (Chart.fan(1), Chart.fan(16), BENT, SIMPLE):
            paper = Paper(chart)
            self.assertIs(chart, paper.subject)
            self.assertEqual((False, f"chart of {chart.size} lines"), (paper.holds(), paper.words()))

    def test_ninth(self):
        """[188] It holds if the lines fit as a ninth."""
        flat = nine_points(*PAPPUS)[0].chart()
        for chart, lines in ((BENT, NAMES), (-BENT, NAMES), (BENT, NAMES[::-1]), (flat, NAMES)):
            paper = Ninth(chart, list(lines))
            self.assertIsInstance(paper, Paper)
            self.assertEqual((chart, tuple(lines)), (paper.subject, paper.lines))
            self.assertIs(is_ninth(chart, lines), paper.holds())
        self.assertIs(True, Ninth(BENT, NAMES).holds())
        self.assertEqual("chart of 9 lines\nninth 0 3 7 1 5 8 2 4 6", Ninth(BENT, NAMES).words())
        self.assertIs(False, Ninth(Chart.fan(16), list(range(9))).holds())

    def test_tenth(self):
        """[188] It holds if the lines fit as a tenth."""
        points, names = ten_points(*spots_given(DESARGUES))
        bent = loosened(points.chart(), names[7:], [-1])
        for chart, lines in ((bent, names), (points.chart(), names), (bent, names[::-1])):
            paper = Tenth(chart, list(lines))
            self.assertIsInstance(paper, Paper)
            self.assertEqual((chart, tuple(lines)), (paper.subject, paper.lines))
            self.assertIs(is_tenth(chart, lines), paper.holds())
        self.assertIs(True, Tenth(bent, names).holds())
        told = "chart of 10 lines\ntenth " + " ".join(map(str, names))
        self.assertEqual(told, Tenth(bent, names).words())

    def test_words_of_tellings(self):
        paper = Tellings(BENT, [[[6, 0, 1, 2, 4], "H", "G", True], ((0, 1, 2, 5, 6), "G", "F", False)])
        self.assertEqual("chart of 9 lines\n6 0 1 2 4: H < G\n0 1 2 5 6: G = F", paper.words())
        self.assertEqual((((6, 0, 1, 2, 4), "H", "G", True), ((0, 1, 2, 5, 6), "G", "F", False)), paper.entries)
        self.assertEqual(("chart of 5 lines", False, ()), (Tellings(Chart.fan(5), []).words(),
                                                           Tellings(Chart.fan(5), ()).holds(),
                                                           Tellings(Chart.fan(5), []).entries))
        told = "chart of 16 lines\n15 0 14 1 10: G < H"
        self.assertEqual(told, Tellings(Chart.fan(16), [((15, 0, 14, 1, 10), "G", "H", True)]).words())

    def test_refusals(self):
        for call in (Ninth, Tenth, Tellings):
            for value in NO_CHARTS:
                self.due(BadKind, {"word": "chart"}, call, value, None)
        self.asks_for_chart(Paper)
        self.asks_for_soundness(Paper)
        for call, many in ((Ninth, 9), (Tenth, 10)):
            for value in (*NO_LISTS, [], list(range(many - 1)), tuple(range(many + 1))):
                self.due(BadKind, {"word": "lines"}, call, UNSOUND, value)
            big = UNSOUND + UNSOUND + UNSOUND
            for value in (*NO_INTEGERS, -1, 12, 3):
                self.due(BadLine, {"line": value}, call, big, [3, 1, value, *[99] * (many - 3)])
            self.asks_for_soundness(lambda chart, last=many: call(chart + Chart.fan(8), list(range(last))[::-1]))

    def test_refused_entries(self):
        big, five = UNSOUND + Chart.fan(1), (0, 1, 2, 3, 4)
        good = (five, "F", "G", True)
        for value in (*NO_LISTS, [None], [good, 3], ["good"], [good[:3]], [(*good, 1)], [()]):
            self.due(BadKind, {"word": "entries"}, Tellings, big, value)
        for value in (*NO_LISTS, [], five[:4], (*five, 5)):
            self.due(BadKind, {"word": "five"}, Tellings, big, [good, (value, None, None, None), None])
        for value in (*NO_INTEGERS, 5, -1, 0):
            self.due(BadLine, {"line": value}, Tellings, big, [good, ([0, 1, value, 99, 99], None, None, None), None])
        for value in NO_PRODUCTS:
            self.due(BadKind, {"word": "entries"}, Tellings, big, [(five, value, "G", True)])
            self.due(BadKind, {"word": "entries"}, Tellings, big, [(five, "G", value, True)])
        self.due(BadKind, {"word": "entries"}, Tellings, big, [(five, "G", "G", True)])
        for value in (0, 1, None, "True", "", ()):
            self.due(BadKind, {"word": "entries"}, Tellings, big, [(five, "F", "G", value)])
        # The entries are asked one by one, and ahead of Unsound.
        self.due(BadLine, {"line": 5}, Tellings, big, [((0, 1, 2, 3, 5), None, None, None), None])
        self.asks_for_soundness(lambda chart: Tellings(chart + Chart.fan(1), [good]))
        self.asks_for_soundness(Tellings, [])

    def test_arguments_stay(self):
        lines, entries = list(NAMES), [[[6, 0, 1, 2, 4], "H", "G", True]]
        ninth, paper = Ninth(BENT, lines), Tellings(BENT, entries)
        lines.clear()
        entries[0][0].clear()
        self.assertEqual((NAMES, (((6, 0, 1, 2, 4), "H", "G", True),)), (ninth.lines, paper.entries))


class ClashTest(DueCase):
    def test_clashing_entries(self):
        """[191] Charts that no straight has."""
        for chart, entries in ((BENT, BENT_ENTRIES), (SIMPLE, SIMPLE_ENTRIES)):
            self.assertTrue(chart.sound)
            self.assertIs(True, Tellings(chart, entries).holds())
            self.assertIs(True, Tellings(chart, [list(entry) for entry in entries][::-1] * 2).holds())
            for at in range(len(entries)):
                self.assertIs(False, Tellings(chart, [*entries[:at], *entries[at + 1:]]).holds())
                self.assertIs(False, Tellings(chart, [*entries, entries[at]]).holds())
                five, lesser, greater, strict = entries[at]
                for changed in ((five, greater, lesser, strict), (five, lesser, greater, not strict)):
                    self.assertIs(False, Tellings(chart, [*entries[:at], changed, *entries[at + 1:]]).holds())
            self.assertIs(False, Tellings(-Chart.fan(9), entries).holds())

    def test_none_is_strict(self):
        """[191] Equal products both ways take one another away, and show nothing."""
        chart = nine_points(*PAPPUS)[0].chart()
        equal = [(five, *told) for five in some_fives(5) for told in tellings(chart, five) if not told[2]]
        both = [entry for entry in equal if (entry[0], entry[2], entry[1], False) in equal]
        self.assertEqual(both, equal)
        self.assertGreater(len(both), 0)
        self.assertIs(False, Tellings(chart, both).holds())
        # A strict one beside them leaves its factors over.
        strict = [(five, *told) for five in some_fives(9) for told in tellings(chart, five) if told[2]]
        self.assertIs(False, Tellings(chart, [*both, strict[0]]).holds())

    def test_straights_never_clash(self):
        """[191] No straight has a chart in which entries clash."""
        source = random.Random(191)
        points = Points([(x, source.randint(0, 50)) for x in range(9)])
        chart = points.chart()
        for entries in (BENT_ENTRIES, SIMPLE_ENTRIES):
            self.assertIs(False, Tellings(chart, entries).holds())
        told = [(five, *telling) for five in some_fives(9)[::2] for telling in tellings(chart, five)]
        for _ in range(200):
            self.assertIs(False, Tellings(chart, source.sample(told, source.randint(1, 4))).holds())


if __name__ == "__main__":
    unittest.main()
