"""Straight lines with ratios as slopes and heights, and the points that stand for them."""

from bentlines.charts import Chart
from bentlines.drawings import Drawing
from bentlines.drawn import turns_along
from bentlines.errors import BadKind, BadNumber, OnLine, SameSlope, TooMany
from bentlines.links import all_knots
from bentlines.numbers import sign_of
from bentlines.ratios import ratio_of, ratios_of, sign_between, sorted_by_ratios, whole_numbers
from bentlines.threes import MOST_LINES, check_line, pair_of, three_of, threes_in


def three_number(straight, three):
    """Return the number of the three, a ratio."""
    check_straight(straight)
    return number_of(straight, three_of(three, straight.size))


def order_by_x(straight):
    """Return the knots from left to right, and from above to below where several are at one x."""
    return knots_by_x(check_straight(straight))


def drawing_by_x(straight):
    """Return the drawing whose turns are the knots in the order of order_by_x."""
    order = knots_by_x(check_straight(straight))
    return Drawing(straight.size, turns_along(straight.chart(), order))


def place_at(straight, x, y):
    """Return the lot of the lines above the spot (x, y)."""
    check_straight(straight)
    at = ratio_of(x, "x")
    height = ratio_of(y, "y")
    sides = [sign_between(straight.height_at(line, at), height) for line in range(straight.size)]
    if 0 in sides:
        raise OnLine(sides.index(0))
    return tuple([line for line, side in enumerate(sides) if side > 0])


def moved(straight, slope, height, x):
    """Return the straight with slope added to all slopes, and height and x times the old slope to each height."""
    check_straight(straight)
    more_slope = ratio_of(slope, "slope")
    more_height = ratio_of(height, "height")
    factor = ratio_of(x, "x")
    heights = [old + more_height + factor * steep for old, steep in zip(straight.heights, straight.slopes)]
    return Straight([old + more_slope for old in straight.slopes], heights)


def scaled(straight, slope, height):
    """Return the straight with all slopes multiplied by slope and all heights by height."""
    check_straight(straight)
    slope_factor = factor_of(slope, "slope")
    height_factor = factor_of(height, "height")
    # A factor below 0 puts the slopes in the opposite order.
    way = slope_factor.signum()
    slopes = [old * slope_factor for old in straight.slopes[::way]]
    return Straight(slopes, [old * height_factor for old in straight.heights[::way]])


def check_straight(straight):
    """Return the value if it is a Straight."""
    if not isinstance(straight, Straight):
        raise BadKind("straight")
    return straight


def factor_of(value, word):
    """Return the Ratio that the value tells, if it is not 0."""
    factor = ratio_of(value, word)
    if not factor:
        raise BadNumber(word)
    return factor


def spot_of(value, word):
    """Return the spot, a tuple of two Ratios, that the value tells; word tells which argument it is."""
    return ratios_of(value, word, 2)


def spots_of(values, word):
    """Return the list of these spots, at least one."""
    if not isinstance(values, (list, tuple)) or not values:
        raise BadKind(word)
    return [spot_of(value, word) for value in values]


def check_rising(slopes):
    """Raise the error that is due unless these are slopes, in rising order, of a number of lines that is kept."""
    if len(slopes) > MOST_LINES:
        raise TooMany("lines")
    for at, pair in enumerate(zip(slopes, slopes[1:])):
        if sign_between(pair[0], pair[1]) >= 0:
            raise SameSlope(at + 1)


def number_of(straight, three):
    """Return the number of an ascending three; nothing is checked."""
    return signed_area([straight.slopes[line] for line in three], [straight.heights[line] for line in three])


def signed_area(slopes, heights):
    """Return the number of three lines with these slopes and heights, which are integers or Ratios."""
    first, second, third = slopes
    low, middle, high = heights
    return (middle - low) * (third - first) - (second - first) * (high - low)


def straight_signs(slopes, heights):
    """Return the list of the signs of all threes of lines with these Ratios as slopes and heights."""
    # Multiplied by an integer above 0, the slopes or the heights have the same chart, and integers are quick.
    s = whole_numbers(slopes)
    h = whole_numbers(heights)
    return [sign_of(signed_area((s[i], s[j], s[k]), (h[i], h[j], h[k])))
            for i, j, k in threes_in(list(range(len(s))))]


def knots_by_x(straight):
    """Return what order_by_x returns; nothing is checked."""
    rows = []
    for knot in all_knots(straight.chart()):
        x, y = straight.meeting(knot[:2])
        rows.append(((x, -y), knot))
    return tuple([knot for _, knot in sorted_by_ratios(rows)])


def turn_of(first, second, third):
    """Return 1 if three spots turn left in this order, -1 if right, 0 if they lie on one straight line."""
    area = (second[0] - first[0]) * (third[1] - first[1]) - (second[1] - first[1]) * (third[0] - first[0])
    return area.signum()


class Straight:
    """Straight lines, in rising order of their slopes."""

    def __init__(self, slopes, heights):
        steep = ratios_of(slopes, "slopes")
        high = ratios_of(heights, "heights", len(steep))
        check_rising(steep)
        self.size = len(steep)
        self.slopes = steep
        self.heights = high

    def chart(self):
        """Return the chart of the lines."""
        return Chart(self.size, straight_signs(self.slopes, self.heights))

    def height_at(self, line, x):
        """Return the y of the line at this x."""
        check_line(line, self.size)
        return self.slopes[line] * ratio_of(x, "x") + self.heights[line]

    def meeting(self, pair):
        """Return the spot where the two lines meet."""
        first, second = pair_of(pair, self.size)
        x = (self.heights[first] - self.heights[second]).divided(self.slopes[second] - self.slopes[first])
        return (x, self.height_at(first, x))


class Points(Straight):
    """Straight lines that are told by the points that stand for them, from left to right."""

    def __init__(self, points):
        spots = spots_of(points, "points")
        super().__init__([x for x, _ in spots], [-y for _, y in spots])
        self.points = tuple(spots)

    def point(self, line):
        """Return the point that stands for the line."""
        return self.points[check_line(line, self.size)]

    def turns_left(self, three):
        """Return 1 if three points turn left in the order passed, -1 if right, 0 if they lie on one straight line."""
        three_of(three, self.size)
        first, second, third = [self.points[line] for line in three]
        return turn_of(first, second, third)
