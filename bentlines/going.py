"""Going over from straight lines to others with the same slopes, and the charts on the way."""

from bentlines.charts import Chart
from bentlines.errors import BadNumber, Degenerate
from bentlines.numbers import sign_of
from bentlines.ratios import Ratio, mean, ratio_of, ratios_of, sorted_by_ratios
from bentlines.straights import Straight, check_straight, number_of
from bentlines.threes import threes_in


class Going:
    """The going over from the heights of a straight to other heights of the same lines."""

    def __init__(self, straight, heights):
        check_straight(straight)
        self.straight = straight
        self.heights = ratios_of(heights, "heights", straight.size)
        self.numbers = numbers_of(straight, Straight(straight.slopes, self.heights))
        self.moments = moments_of(self.numbers)
        self.first_chart = chart_then(straight.size, self.numbers, Ratio(0))
        self.last_chart = chart_then(straight.size, self.numbers, Ratio(1))

    @property
    def plain(self):
        """Whether the charts at 0 and at 1 are simple and no two threes have the same time."""
        alone = [len(threes_then) == 1 for _, threes_then in self.moments]
        return self.first_chart.simple and self.last_chart.simple and all(alone)

    def times(self):
        """Return the pairs of a time and all threes with that time, by ascending time."""
        return self.moments

    def chart_at(self, time):
        """Return the chart at a time from 0 to 1."""
        now = ratio_of(time, "time")
        if now.signum() < 0 or (now - 1).signum() > 0:
            raise BadNumber("time")
        return chart_then(self.straight.size, self.numbers, now)

    def charts(self):
        """Return the list of the chart at 0 and, for each time, the chart between it and the next time, or at 1."""
        times = [time for time, _ in self.moments]
        between = [self.chart_at(mean(first, second)) for first, second in zip(times, times[1:])]
        ends = [self.last_chart] if times else []
        return [self.first_chart, *between, *ends]

    def turnings(self):
        """Return the list of the threes in the order of their times, for a plain going."""
        if not self.plain:
            raise Degenerate("times")
        return [threes_then[0] for _, threes_then in self.moments]


def numbers_of(begin, end):
    """Return for each three its numbers in two straights, both multiplied by one integer above 0, as integers."""
    found = {}
    for three in threes_in(list(range(begin.size))):
        first = number_of(begin, three)
        last = number_of(end, three)
        found[three] = (first.top * last.bottom, last.top * first.bottom)
    return found


def moments_of(numbers):
    """Return the pairs of a time and all threes with that time, by ascending time, of threes with these numbers."""
    found = {}
    for three, pair in numbers.items():
        first, last = pair
        if sign_of(first) * sign_of(last) < 0:
            time = Ratio(first, first - last)
            found.setdefault((time.top, time.bottom), []).append(three)
    rows = sorted_by_ratios([((Ratio(top, bottom),), found[(top, bottom)]) for top, bottom in found])
    return tuple([(key[0], tuple(threes_then)) for key, threes_then in rows])


def chart_then(size, numbers, time):
    """Return the chart at the time of threes with these numbers at 0 and at 1."""
    # The number of a three changes evenly with the time.
    signs = [sign_of(first * (time.bottom - time.top) + last * time.top) for first, last in numbers.values()]
    return Chart(size, signs)
