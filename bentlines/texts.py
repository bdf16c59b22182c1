"""Texts of charts and lots, written and read."""

from bentlines.charts import Chart, check_chart
from bentlines.errors import BadKind, BadLine, BadNumber, BadSigns, BadText
from bentlines.threes import check_size, lot_of


def chart_text(chart):
    """Return the text of a chart."""
    check_chart(chart)
    tail = f"signs {chart.marks}" if chart.signs else "signs"
    return f"lines {chart.size}\n{tail}\n"


def chart_from(text):
    """Return the chart of a text."""
    check_text(text)
    lines = text.split("\n")
    filled = [(number, words_of(line)) for number, line in enumerate(lines, start=1) if words_of(line)]
    if not filled:
        raise BadText(len(lines) + 1)
    size = size_from(filled[0][0], filled[0][1])
    if len(filled) == 1:
        raise BadText(len(lines) + 1)
    chart = signs_from(filled[1][0], filled[1][1], size)
    if len(filled) > 2:
        raise BadText(filled[2][0])
    return chart


def size_from(number, words):
    """Return the size that the words of the first line, which has this number, tell."""
    if len(words) != 2 or words[0] != "lines":
        raise BadText(number)
    size = plain_number(words[1], 1, Chart.MOST)
    if size is None:
        raise BadText(number) from BadNumber("size")
    return size


def signs_from(number, words, size):
    """Return the chart whose signs the words of the second line, which has this number, tell."""
    if len(words) > 2 or words[0] != "signs":
        raise BadText(number)
    marks = words[1] if len(words) == 2 else ""
    try:
        return Chart.told(size, marks)
    except BadSigns as why:
        raise BadText(number) from why


def lot_text(lot):
    """Return the text of a lot of the lines 0 .. 15."""
    names = lot_of(lot, Chart.MOST)
    if not names:
        return "none"
    return " ".join([str(name) for name in names])


def lot_from(text, size):
    """Return the lot of a text, of so many lines."""
    check_text(text)
    check_size(size)
    words = words_of(text)
    if not words:
        raise BadText(1)
    if words == ["none"]:
        return ()
    names = []
    for word in words:
        name = plain_number(word, 0, size - 1)
        if name is None or name in names:
            raise BadText(1) from BadLine(word)
        names.append(name)
    return tuple(sorted(names))


def check_text(text):
    """Return the text if it is a string."""
    if not isinstance(text, str):
        raise BadKind("text")
    return text


def words_of(line):
    """Return the words of a line; only blanks stand between words."""
    return [word for word in line.split(" ") if word]


def plain_number(word, least, most):
    """Return the integer from least to most that is written so, or None."""
    for number in range(least, most + 1):
        if word == str(number):
            return number
    return None
