"""Doors of any lot of a simple chart, whether it is a place or not."""

from bentlines.charts import check_chart
from bentlines.crossings import simple_edge
from bentlines.doors import told_left
from bentlines.links import check_sound_simple
from bentlines.threes import lot_of, pairs_in


def lot_doors(chart, lot):
    """Return the number and the edge sum of the left doors of the lot."""
    names = checked_lot(chart, lot)
    return counted(chart, [(a, b) for a, b in pairs_in(chart.lines) if b in names and a not in names])


def right_lot_doors(chart, lot):
    """Return the number and the edge sum of the right doors of the lot."""
    names = checked_lot(chart, lot)
    return counted(chart, [(a, b) for a, b in pairs_in(chart.lines) if a in names and b not in names])


def told_doors(size, lot):
    """Return what lot_doors is told by the names alone: the sums over the edges, and of each edge times its doors."""
    names = lot_of(lot, size)
    doors = [told_left(size, names, edge) for edge in range(1, size)]
    return (sum(doors), sum([(at + 1) * many for at, many in enumerate(doors)]))


def checked_lot(chart, lot):
    """Return a lot of lines of a simple chart, ascending, with all errors due."""
    check_chart(chart)
    names = lot_of(lot, chart.size)
    check_sound_simple(chart)
    return names


def counted(chart, pairs):
    """Return how many pairs these are, and their edge sum."""
    return (len(pairs), sum([simple_edge(chart, pair) for pair in pairs]))
