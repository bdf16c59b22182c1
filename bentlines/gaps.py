"""Edge counts behind a turned triangle, and their sum."""

from bentlines.crossings import simple_counts
from bentlines.links import check_simple_chart
from bentlines.triangles import turned_over


def counts_behind(chart, three):
    """Return the edge counts of the chart with this triangle turned over."""
    return simple_counts(turned_over(chart, three))


def edge_sum(chart):
    """Return the sum of each edge times its edge count."""
    check_simple_chart(chart)
    return sum([edge * many for edge, many in enumerate(simple_counts(chart))])


def edge_sum_told(chart):
    """Return the same sum, told by the number of lines and of signs - alone."""
    check_simple_chart(chart)
    n = chart.size
    return (n - 1) * n * (n + 1) // 6 + chart.signs.count(-1)
