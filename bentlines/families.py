"""Families: the charts that come from one by rolling and mirroring."""

from bentlines.charts import Chart, check_chart, check_sound


def family(chart):
    """Return the list of the unlike charts of the family, by ascending signs."""
    check_chart(chart)
    check_sound(chart)
    found = {made.signs: True for _, made in rolled_ways(chart)}
    return [Chart(chart.size, signs) for signs in sorted(found)]


def least_of(chart):
    """Return the chart of the family with the least signs."""
    return family(chart)[0]


def carriers(chart, other):
    """Return the list of the carriers (times, mirrored) from the chart to the other one."""
    check_chart(chart)
    check_chart(other)
    check_sound(chart)
    check_sound(other)
    return [way for way, made in rolled_ways(chart) if made == other]


def same_family(chart, other):
    """Return whether the two charts have the same family."""
    return len(carriers(chart, other)) > 0


def own_turns(chart):
    """Return the list of the carriers from the chart to itself."""
    return carriers(chart, chart)


def rolled_ways(chart):
    """Return the list of all (times, mirrored), each with the chart rolled so many times and then mirrored or not."""
    found = []
    for times in range(2 * chart.size):
        made = chart.rolled(times)
        found.append(((times, False), made))
        found.append(((times, True), made.mirrored()))
    return found
