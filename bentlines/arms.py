"""Charts of three arms, with as few shallow meetings as can be."""

from bentlines.charts import Chart, check_sound
from bentlines.errors import BadKind, TooMany
from bentlines.links import check_simple
from bentlines.numbers import check_int
from bentlines.threes import MOST_LINES, check_line, threes_in

# The signs of threes that are not within one arm, by the arms of their lines.
SIGNS = {"AAC": 1, "CCB": 1, "CBB": 1, "ACC": -1, "AAB": -1, "ABB": -1, "ACB": -1}


def arms(a, b, c, *, inner=()):
    """Return the chart of three arms of a, b and c lines; inner has charts for the arms A, B and C."""
    check_arms(a, b, c)
    check_inner(inner, (a, b, c))
    if a + b + c > MOST_LINES:
        raise TooMany("lines")
    for chart in inner:
        check_sound(chart)
    for chart in inner:
        check_simple(chart)
    word = "A" * a + "C" * c + "B" * b
    within = dict(zip(["A", "B", "C"], inner))
    return Chart(len(word), [arms_sign(word, within, three) for three in threes_in(list(range(len(word))))])


def arm_of(a, b, c, line):
    """Return the arm of the line: "A", "B" or "C"."""
    check_arms(a, b, c)
    check_line(line, a + b + c)
    if a + b + c > MOST_LINES:
        raise TooMany("lines")
    if line < a:
        return "A"
    return "C" if line < a + c else "B"


def check_arms(a, b, c):
    """Raise BadNumber unless each arm has at least one line."""
    check_int(a, "a", 1, None)
    check_int(b, "b", 1, None)
    check_int(c, "c", 1, None)


def check_inner(inner, sizes):
    """Raise BadKind unless this is a list or tuple of charts of these sizes, three at the most."""
    if not isinstance(inner, (list, tuple)) or len(inner) > 3:
        raise BadKind("inner")
    for chart, size in zip(inner, sizes):
        if not isinstance(chart, Chart) or chart.size != size:
            raise BadKind("inner")


def arms_sign(word, within, three):
    """Return the sign of an ascending three; word has the arm of each line, within the charts of some arms."""
    i, j, k = three
    told = word[i] + word[j] + word[k]
    if told in SIGNS:
        return SIGNS[told]
    if word[i] not in within:
        return 1
    first = word.index(word[i])
    return within[word[i]].lot_sign((i - first, j - first, k - first))
