"""Fives of lines, what they tell about straight lines, and papers that show that no straight lines have a chart."""

from bentlines.charts import check_chart, check_sound
from bentlines.errors import BadKind
from bentlines.ninths import fits_ninth, fits_tenth, many_lines
from bentlines.numbers import sign_of
from bentlines.straights import check_straight, number_of
from bentlines.threes import MOST_LINES, lot_from_lines, order_sign

# The two factors of each product, as indexes into the five.
FACTORS = {"F": ((0, 1, 2), (0, 3, 4)), "G": ((0, 1, 3), (0, 2, 4)), "H": ((0, 1, 4), (0, 2, 3))}
PRODUCTS = ("F", "G", "H")


def tellings(chart, five):
    """Return the tellings (lesser, greater, strict) of a five of the chart."""
    check_chart(chart)
    names = five_of(five, chart.size)
    check_sound(chart)
    return tellings_of(chart, names)


def five_numbers(straight, five):
    """Return the three products of a five of the straight, ratios."""
    check_straight(straight)
    names = five_of(five, straight.size)
    return tuple([product_number(straight, names, word) for word in PRODUCTS])


def threes_of(five, word):
    """Return the two factors of a product of the five, in the order written, each ascending."""
    names = five_of(five, MOST_LINES)
    if not is_product(word):
        raise BadKind("word")
    return factors_of(names, word)


def five_of(value, size):
    """Return the tuple of five different lines, in the order passed."""
    if not isinstance(value, (list, tuple)) or len(value) != 5:
        raise BadKind("five")
    lot_from_lines(value, size)
    return tuple(value)


def is_product(value):
    """Return whether the value is the name of a product."""
    return isinstance(value, str) and value in PRODUCTS


def written_factors(five, word):
    """Return the two factors of a product of the five, with the lines in the order written."""
    return [tuple([five[at] for at in three]) for three in FACTORS[word]]


def factors_of(five, word):
    """Return the two factors of a product of the five, each ascending."""
    return tuple([tuple(sorted(three)) for three in written_factors(five, word)])


def product_sign(chart, five, word):
    """Return the sign of a product of a five of the chart; nothing is checked."""
    first, second = written_factors(five, word)
    return chart.sign(first) * chart.sign(second)


def product_number(straight, five, word):
    """Return the number of a product of a five of the straight; nothing is checked."""
    first, second = written_factors(five, word)
    turns = order_sign(first) * order_sign(second)
    return number_of(straight, tuple(sorted(first))) * number_of(straight, tuple(sorted(second))) * turns


def tellings_of(chart, five):
    """Return what tellings returns; nothing is checked."""
    signs = [product_sign(chart, five, word) for word in PRODUCTS]
    zeros = signs.count(0)
    if zeros > 1:
        return ()
    if zeros == 1:
        first, second = [word for word, sign in zip(PRODUCTS, signs) if sign != 0]
        return ((first, second, False), (second, first, False))
    greatest = greatest_product(signs)
    return tuple([(word, greatest, True) for word in PRODUCTS if word != greatest])


def greatest_product(signs):
    """Return the product that is the sum of the two others, all with one sign; F + H = G, and none is 0."""
    f, g, h = signs
    if f == h:
        return "G"
    return "F" if g == f else "H"


def entry_of(value, size):
    """Return an entry as a tuple, with the five as a tuple."""
    if not isinstance(value, (list, tuple)) or len(value) != 4:
        raise BadKind("entries")
    five, lesser, greater, strict = value
    names = five_of(five, size)
    if not is_product(lesser) or not is_product(greater) or lesser == greater or not isinstance(strict, bool):
        raise BadKind("entries")
    return (names, lesser, greater, strict)


def clash(chart, entries):
    """Return whether the entries clash in the chart; nothing is checked."""
    balance = {}
    for five, lesser, greater, strict in entries:
        if (lesser, greater, strict) not in tellings_of(chart, five):
            return False
        for three in factors_of(five, lesser):
            balance[three] = balance.get(three, 0) + 1
        for three in factors_of(five, greater):
            balance[three] = balance.get(three, 0) - 1
    even = all([many == 0 for many in balance.values()])
    return even and any([entry[3] for entry in entries])


def entry_line(entry):
    """Return a line such as "2 0 1 3 4: F < G"."""
    five, lesser, greater, strict = entry
    names = names_text(five)
    mark = "<" if strict else "="
    return f"{names}: {lesser} {mark} {greater}"


def names_text(names):
    """Return the names with one blank between each two."""
    return " ".join([str(name) for name in names])


def heading(chart):
    """Return the line with which the words of each paper about the chart begin."""
    return f"chart of {chart.size} lines"


class Paper:
    """A paper about a sound chart."""

    def __init__(self, subject):
        check_chart(subject)
        check_sound(subject)
        self.subject = subject

    def holds(self):
        """Return whether the paper shows that no straight has the chart."""
        return False

    def words(self):
        """Return what the paper says."""
        return heading(self.subject)


class Ninth(Paper):
    """A paper that names nine lines of its chart."""

    def __init__(self, subject, lines):
        check_chart(subject)
        names = many_lines(lines, 9, subject.size)
        super().__init__(subject)
        self.lines = names

    def holds(self):
        """Return whether the lines fit as a ninth."""
        return fits_ninth(self.subject, self.lines)

    def words(self):
        """Return what the paper says."""
        return f"{heading(self.subject)}\nninth {names_text(self.lines)}"


class Tenth(Paper):
    """A paper that names ten lines of its chart."""

    def __init__(self, subject, lines):
        check_chart(subject)
        names = many_lines(lines, 10, subject.size)
        super().__init__(subject)
        self.lines = names

    def holds(self):
        """Return whether the lines fit as a tenth."""
        return fits_tenth(self.subject, self.lines)

    def words(self):
        """Return what the paper says."""
        return f"{heading(self.subject)}\ntenth {names_text(self.lines)}"


class Tellings(Paper):
    """A paper that compares products of fives of its chart."""

    def __init__(self, subject, entries):
        check_chart(subject)
        if not isinstance(entries, (list, tuple)):
            raise BadKind("entries")
        told = tuple([entry_of(entry, subject.size) for entry in entries])
        super().__init__(subject)
        self.entries = told

    def holds(self):
        """Return whether the entries clash in the chart."""
        return clash(self.subject, self.entries)

    def words(self):
        """Return what the paper says."""
        return "\n".join([heading(self.subject)] + [entry_line(entry) for entry in self.entries])
