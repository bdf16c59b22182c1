"""Listings: what is told about a place, a sheet and a chart, in lines and in pairs."""

from bentlines.convex import convex_count
from bentlines.cups import cap_size, cup_size
from bentlines.crossings import simple_counts
from bentlines.doors import door_table
from bentlines.hulls import hull
from bentlines.links import all_knots, check_simple_chart
from bentlines.places import places_of
from bentlines.polygons import round_size
from bentlines.sheets import check_sheet
from bentlines.steps import steps_of
from bentlines.triangles import triangles


def door_lines(chart, place):
    """Return a string for each edge: the edge, the left doors and the right doors of the place."""
    return [f"{at + 1:>4}{doors[0]:>4}{doors[1]:>4}" for at, doors in enumerate(door_table(chart, place))]


def sheet_lines(sheet):
    """Return what is told of the sheet, a string for each thing."""
    check_sheet(sheet)
    chart = sheet.chart()
    lines = [f"name: {sheet.name}", f"lines: {chart.size}"]
    if chart.simple:
        edges = " ".join([str(many) for many in simple_counts(chart)[1:]])
        lines.append(f"edges: {edges}")
    return lines + [f"knots: {len(all_knots(chart))}", f"done: {sheet.done}"]


def census(chart):
    """Return the numbers that a simple chart has, each with its word."""
    check_simple_chart(chart)
    return (("triangles", len(triangles(chart))), ("places", len(places_of(chart))), ("convex", convex_count(chart)),
            ("hull", len(hull(chart))), ("cup", cup_size(chart)), ("cap", cap_size(chart)),
            ("round", round_size(chart)), ("steps", len(steps_of(chart))))
