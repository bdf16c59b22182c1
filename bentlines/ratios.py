"""Ratios: fractions of two integers, in lowest terms."""

from math import gcd, lcm

from bentlines.errors import BadKind, BadRatio
from bentlines.numbers import is_int, sign_of


def compare(first, second):
    """Return -1, 0 or 1, as the first ratio is below, equal to or above the second one."""
    low = ratio_of(first, "first")
    return sign_between(low, ratio_of(second, "second"))


def mean(first, second):
    """Return the ratio halfway between the two."""
    low = ratio_of(first, "first")
    return (low + ratio_of(second, "second")).divided(2)


def ratio_text(ratio):
    """Return a string such as "3" or "-2/5"."""
    told = ratio_of(ratio, "ratio")
    if told.bottom == 1:
        return str(told.top)
    return f"{told.top}/{told.bottom}"


def ratio_of(value, word):
    """Return the Ratio that the value, a Ratio or an integer, tells; word tells which argument it is."""
    if not is_ratio(value):
        raise BadKind(word)
    return as_ratio(value)


def ratios_of(values, word, many=None):
    """Return the tuple of these ratios, at least one, and so many if it is stated."""
    if not isinstance(values, (list, tuple)) or not values:
        raise BadKind(word)
    if many is not None and len(values) != many:
        raise BadKind(word)
    return tuple([ratio_of(value, word) for value in values])


def is_ratio(value):
    """Return whether the value is a Ratio or an integer."""
    return is_int(value) or isinstance(value, Ratio)


def as_ratio(value):
    """Return a Ratio as it is, and an integer as a Ratio."""
    return Ratio(value) if is_int(value) else value


def sign_between(first, second):
    """Return what compare returns, for two Ratios."""
    return sign_of(first.top * second.bottom - second.top * first.bottom)


def whole_numbers(ratios):
    """Return the list of these Ratios, all multiplied by their least common bottom, as integers."""
    common = 1
    for ratio in ratios:
        common = lcm(common, ratio.bottom)
    return [ratio.top * (common // ratio.bottom) for ratio in ratios]


def sorted_by_ratios(rows):
    """Return the list of the rows, sorted by their first entries, which are tuples of Ratios of one length."""
    found = []
    for row in rows:
        low, high = 0, len(found)
        while low < high:
            middle = (low + high) // 2
            if goes_ahead(row[0], found[middle][0]):
                high = middle
            else:
                low = middle + 1
        found.insert(low, row)
    return found


def goes_ahead(first, second):
    """Return whether the first tuple of Ratios is less than the second one."""
    signs = [sign_between(ratio, other) for ratio, other in zip(first, second)]
    return [sign for sign in signs if sign != 0][:1] == [-1]


class Ratio:
    """A fraction top / bottom in lowest terms, the bottom above 0."""

    def __init__(self, top, bottom=1):
        if not is_int(top):
            raise BadKind("top")
        if not is_int(bottom):
            raise BadKind("bottom")
        if bottom == 0:
            raise BadRatio()
        common = gcd(top, bottom) if bottom > 0 else -gcd(top, bottom)
        self.top = top // common
        self.bottom = bottom // common

    @classmethod
    def whole(cls, number):
        """Return the ratio of an integer."""
        return cls(number)

    def divided(self, other):
        """Return this ratio divided by another one."""
        divisor = ratio_of(other, "other")
        return Ratio(self.top * divisor.bottom, self.bottom * divisor.top)

    def signum(self):
        """Return -1, 0 or 1, as the ratio is below, equal to or above 0."""
        return sign_of(self.top)

    def __add__(self, other):
        if not is_ratio(other):
            return NotImplemented
        more = as_ratio(other)
        return Ratio(self.top * more.bottom + more.top * self.bottom, self.bottom * more.bottom)

    def __radd__(self, other):
        return self + other

    def __sub__(self, other):
        if not is_ratio(other):
            return NotImplemented
        return self + -as_ratio(other)

    def __rsub__(self, other):
        return -self + other

    def __mul__(self, other):
        if not is_ratio(other):
            return NotImplemented
        factor = as_ratio(other)
        return Ratio(self.top * factor.top, self.bottom * factor.bottom)

    def __rmul__(self, other):
        return self * other

    def __neg__(self):
        return Ratio(-self.top, self.bottom)

    def __eq__(self, other):
        if is_int(other):
            return self.bottom == 1 and self.top == other
        return isinstance(other, Ratio) and self.top == other.top and self.bottom == other.bottom

    def __bool__(self):
        return bool(self.top)
