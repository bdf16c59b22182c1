"""Charts beside one another, stairs of charts, and bundles of lines in the place of one."""

from bentlines.charts import Chart, check_chart, check_sound
from bentlines.cups import most_lines
from bentlines.errors import BadKind, TooMany
from bentlines.links import check_simple
from bentlines.numbers import check_int
from bentlines.threes import MOST_LINES, check_line, threes_in


def beside_of(chart, other):
    """Return chart beside other."""
    return beside_all(chart, other)


def beside_all(*charts):
    """Return the first chart beside the second one, this beside the third one, and so on."""
    if not charts:
        raise BadKind("charts")
    for chart in charts:
        check_chart(chart)
    check_many(sum([chart.size for chart in charts]))
    for chart in charts:
        check_sound(chart)
    made = Chart(charts[0].size, charts[0].signs)
    for chart in charts[1:]:
        made = made + chart
    return made


def stairs(cup, cap):
    """Return the stairs with these numbers."""
    check_int(cup, "cup", 1, None)
    check_int(cap, "cap", 1, None)
    if cup > 1 and cap > 1:
        # There are at least so many lines; great numbers are refused ahead of counting.
        check_many(cup + cap - 2)
        check_many(most_lines(cup, cap))
    return stairs_of(cup, cap)


def bundle(chart, line, other):
    """Return the chart in which the lines of other stand in the place of the line."""
    check_chart(chart)
    check_line(line, chart.size)
    check_chart(other)
    many = chart.size - 1 + other.size
    check_many(many)
    check_sound(chart)
    check_sound(other)
    check_simple(chart)
    check_simple(other)
    return Chart(many, [bundle_sign(chart, line, other, three) for three in threes_in(list(range(many)))])


def check_many(many):
    """Raise TooMany if a chart cannot have so many lines."""
    if many > MOST_LINES:
        raise TooMany("lines")


def stairs_of(cup, cap):
    """Return what stairs returns; nothing is checked."""
    if cup == 1 or cap == 1:
        return Chart(1, [])
    return stairs_of(cup - 1, cap) + stairs_of(cup, cap - 1)


def bundle_sign(chart, line, other, three):
    """Return the sign of an ascending three of the chart with the bundle."""
    last = line + other.size - 1
    bundled = [name for name in three if line <= name <= last]
    if len(bundled) == 3:
        return other.lot_sign(tuple([name - line for name in three]))
    if len(bundled) == 2:
        return 1 if three[2] > last else -1
    # All lines of the bundle count as the one that they stand for.
    return chart.lot_sign(tuple([name if name < line else max(line, name - other.size + 1) for name in three]))
