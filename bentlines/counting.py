"""All simple sound charts of few lines, how many there are, and those that come by one line more."""

from bentlines.charts import Chart, check_chart
from bentlines.errors import TooMany
from bentlines.lastlines import count_orders, orders, signs_with
from bentlines.loose import simple_signs
from bentlines.numbers import check_int
from bentlines.threes import MOST_LINES

MOST_LISTED = 5
MOST_COUNTED = 6


def all_charts(size):
    """Yield all simple sound charts of so many lines, in ascending order of their signs."""
    check_int(size, "size", 1, MOST_LISTED)
    for signs in simple_signs(size):
        yield Chart(size, signs)


def chart_count(size):
    """Return how many simple sound charts of so many lines there are."""
    check_int(size, "size", 1, MOST_COUNTED)
    if size == 1:
        return 1
    # Each chart comes just once from one of a line less, by an order for the last name.
    return sum([count_orders(Chart(size - 1, signs), size - 1) for signs in simple_signs(size - 1)])


def extensions(chart):
    """Yield all charts that come by putting in a line with the last name, in ascending order of their signs."""
    check_chart(chart)
    if chart.size == MOST_LINES:
        raise TooMany("lines")
    ways = list(orders(chart, chart.size))
    for signs in sorted([signs_with(chart, chart.size, order) for order in ways]):
        yield Chart(chart.size + 1, signs)
