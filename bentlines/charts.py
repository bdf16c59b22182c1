"""Charts: one sign for each three lines."""

from bentlines.errors import BadKind, BadSigns, TooMany, Unsound
from bentlines.numbers import check_int, choose, is_int
from bentlines.threes import check_size, fours_in, lot_of, order_sign, three_of, threes_in

MARKS = "-0+"


def is_sign(value):
    """Return whether the value is one of the integers -1, 0, 1."""
    return is_int(value) and -1 <= value <= 1


def check_signs(signs, many):
    """Raise BadSigns unless this is a list or tuple of so many signs."""
    if not isinstance(signs, (list, tuple)) or len(signs) != many:
        raise BadSigns(-1)
    for at, sign in enumerate(signs):
        if not is_sign(sign):
            raise BadSigns(at)


def changes(row):
    """Return at how many places neighbours in a row of four signs differ."""
    a, b, c, d = row
    return (a != b) + (b != c) + (c != d)


def good_row(row):
    """Return whether a row of four signs, a tuple, is good."""
    zeros = row.count(0)
    if zeros == 0:
        return changes(row) <= 1
    if zeros > 1:
        return zeros == 4
    at = row.index(0)
    return all([changes(row[:at] + (sign,) + row[at + 1:]) <= 1 for sign in (1, -1)])


def signs_of_four(chart, four):
    """Return the row of signs of an ascending four."""
    i, j, k, m = four
    return tuple([chart.lot_sign(three) for three in ((i, j, k), (i, j, m), (i, k, m), (j, k, m))])


def check_chart(chart):
    """Return the chart if it is one."""
    if not isinstance(chart, Chart):
        raise BadKind("chart")
    return chart


def check_sound(chart):
    """Raise Unsound, with the bad four, unless the chart is sound."""
    four = chart.bad
    if four is not None:
        raise Unsound(four)


def with_signs(chart, changed):
    """Return the chart with other signs at some threes; changed has the sign of each of these."""
    signs = [changed.get(three, sign) for three, sign in zip(threes_in(chart.lines), chart.signs)]
    return Chart(chart.size, signs)


def rolled_sign(chart, three, times):
    """Return the sign that an ascending three gets if the chart is rolled 0 .. n-1 times."""
    old = tuple(sorted([(line - times) % chart.size for line in three]))
    sign = chart.lot_sign(old)
    # Each line that went over the end negated the threes that it is in, once.
    over = [line for line in three if line < times]
    return sign if len(over) % 2 == 0 else -sign


def beside_sign(chart, other, three):
    """Return the sign of an ascending three of chart beside other."""
    i, j, k = three
    many = chart.size
    if k < many:
        return chart.lot_sign(three)
    if i >= many:
        return other.lot_sign((i - many, j - many, k - many))
    return 1 if j < many else -1


class Chart:
    """A sign for each three of the lines 0 .. size-1; the chart need not be sound."""

    MOST = 16

    def __init__(self, size, signs):
        check_size(size)
        check_signs(signs, choose(size, 3))
        self.size = size
        self.signs = tuple(signs)
        self.lines = tuple(range(size))
        self._table = dict(zip(threes_in(self.lines), self.signs))

    @classmethod
    def fan(cls, size):
        """Return the chart of so many lines with the sign + everywhere."""
        check_size(size)
        return cls(size, [1] * choose(size, 3))

    @classmethod
    def told(cls, size, marks):
        """Return the chart with the signs of a string of the characters - 0 +."""
        check_size(size)
        if not isinstance(marks, str):
            raise BadKind("marks")
        if len(marks) != choose(size, 3):
            raise BadSigns(-1)
        for at, mark in enumerate(marks):
            if mark not in MARKS:
                raise BadSigns(at)
        return cls(size, [MARKS.index(mark) - 1 for mark in marks])

    @property
    def bad(self):
        """The least four whose row is not good; None if the chart is sound."""
        for four in fours_in(self.lines):
            if not good_row(signs_of_four(self, four)):
                return four
        return None

    @property
    def sound(self):
        """Whether the row of each four is good."""
        return self.bad is None

    @property
    def simple(self):
        """Whether no sign is 0."""
        return 0 not in self.signs

    @property
    def marks(self):
        """The signs in their order as a string."""
        return "".join([MARKS[sign + 1] for sign in self.signs])

    def lot_sign(self, three):
        """Return the sign of an ascending three; nothing is checked."""
        return self._table[three]

    def sign(self, names):
        """Return the sign of three different lines in the order given."""
        three = three_of(names, self.size)
        return self.lot_sign(three) * order_sign(names)

    def part(self, lot):
        """Return the part of the chart for a lot of one line or more."""
        names = lot_of(lot, self.size)
        if not names:
            raise BadKind("lot")
        return Chart(len(names), [self.lot_sign(three) for three in threes_in(names)])

    def contrary(self):
        """Return the chart with every sign negated."""
        return Chart(self.size, [-sign for sign in self.signs])

    def mirrored(self):
        """Return the chart in which line x is renamed n-1-x."""
        last = self.size - 1
        signs = [self.lot_sign((last - k, last - j, last - i)) for i, j, k in threes_in(self.lines)]
        return Chart(self.size, signs)

    def rolled(self, times=1):
        """Return the chart rolled so many times, any integer."""
        check_int(times, "times", None, None)
        # n times is the contrary, so that only the rest below n needs new names.
        whole = times % (2 * self.size)
        rest = whole % self.size
        chart = self if whole < self.size else self.contrary()
        return Chart(self.size, [rolled_sign(chart, three, rest) for three in threes_in(self.lines)])

    def __neg__(self):
        return self.contrary()

    def __invert__(self):
        return self.mirrored()

    def __rshift__(self, other):
        return self.rolled(other)

    def __lshift__(self, other):
        return self.rolled(-check_int(other, "times", None, None))

    def __add__(self, other):
        check_chart(other)
        many = self.size + other.size
        if many > Chart.MOST:
            raise TooMany("lines")
        return Chart(many, [beside_sign(self, other, three) for three in threes_in(list(range(many)))])

    def __getitem__(self, at):
        return self.sign(at)

    def __eq__(self, other):
        return isinstance(other, Chart) and self.size == other.size and self.signs == other.signs

    def __len__(self):
        return len(self.lines)

    def __iter__(self):
        return iter(self.signs)
