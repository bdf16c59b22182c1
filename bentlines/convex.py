"""How many fours of points are convex, told in three ways, and the least number there can be."""

from bentlines.charts import Chart, signs_of_four
from bentlines.crossings import simple_edge
from bentlines.errors import BadKind, BadSigns
from bentlines.fours import convex_row
from bentlines.links import check_simple_chart
from bentlines.numbers import check_int, choose, is_int
from bentlines.shallow import shallow_numbers
from bentlines.threes import fours_in, pairs_in, threes_in
from bentlines.triangles import checked_triangle, lines_over

MOST_SIGNS = 14


def convex_count(chart):
    """Return the number of convex fours."""
    check_simple_chart(chart)
    return len([four for four in fours_in(chart.lines) if convex_row(signs_of_four(chart, four))])


def convex_by_edges(chart):
    """Return the number of convex fours, told by the depths of all meetings."""
    check_simple_chart(chart)
    n = chart.size
    depths = [simple_edge(chart, pair) - 1 for pair in pairs_in(chart.lines)]
    return 3 * choose(n, 4) - sum([d * (n - 2 - d) for d in depths])


def convex_by_shallow(chart):
    """Return the number of convex fours, told by the shallow numbers."""
    check_simple_chart(chart)
    n = chart.size
    m = n // 2
    # Where 2k = n - 1, the factor of the shallow number is 0.
    more = sum([(n - 1 - 2 * k) * many for k, many in enumerate(shallow_numbers(chart))])
    return 3 * choose(n, 4) - choose(n, 2) * (m - 1) * (n - 1 - m) + more


def least_convex(size):
    """Return the least number of convex fours that so many points can have by the bound of the shallow numbers."""
    check_int(size, "size", 1, None)
    # Below four points one of the factors is 0.
    return (size // 2) * ((size - 1) // 2) * ((size - 2) // 2) * ((size - 3) // 2) // 4


def convex_change(chart, three):
    """Return by how much the number of convex fours grows when the triangle is turned over."""
    names = checked_triangle(chart, three)
    # Fours with a line above the triangle become convex if its sign was +, those with one below become not convex.
    over = len(lines_over(chart, names))
    return (over - (chart.size - 3 - over)) * chart.lot_sign(names)


def middle_signs(chart):
    """Return the signs of the points 1 .. n-2 if the signs are told by the middle, else None."""
    check_simple_chart(chart)
    if chart.size < 3:
        return None
    told = [chart.lot_sign((0, j, chart.size - 1)) for j in chart.lines[1:-1]]
    return tuple(told) if list(chart.signs) == signs_by_middle(chart.lines, told) else None


def by_middle(signs):
    """Return the chart that is told by the middle with these signs of the points 1 .. n-2."""
    if not isinstance(signs, (list, tuple)):
        raise BadKind("signs")
    if not 1 <= len(signs) <= MOST_SIGNS:
        raise BadSigns(-1)
    for at, sign in enumerate(signs):
        if not is_int(sign) or sign not in (1, -1):
            raise BadSigns(at)
    size = len(signs) + 2
    return Chart(size, signs_by_middle(list(range(size)), signs))


def signs_by_middle(lines, told):
    """Return the list of the signs of all threes of the lines if told has the signs of the lines 1 .. n-2."""
    return [told[three[1] - 1] for three in threes_in(lines)]
