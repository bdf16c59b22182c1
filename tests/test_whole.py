"""Point [2] over the whole program: of several errors that are due, the first one is raised.

A table tells for each function its arguments, in order, and what it asks of its charts. All functions are then asked in
the same way: wrong values of each argument, with wrong values alone behind it and charts that are not sound; then
charts that are not sound, or not simple; then wrong values of what is asked behind this.
"""

import importlib
import inspect
import unittest

from bentlines.charts import Chart
from bentlines.counters import Watch
from bentlines.doors import Weight
from bentlines.drawings import Drawing
from bentlines.errors import BadKind, BadLine, BadNumber, BadSigns, BadTurn, NotPlace, NotSimple, NotTriangle, Unsound
from bentlines.fives import Ninth, Paper, Tellings, Tenth
from bentlines.going import Going
from bentlines.sheets import Sheet, Trial
from bentlines.straights import Straight
from tests.helpers import NO_CHARTS, NO_INTEGERS, NO_LISTS, UNSOUND, WITH_KNOT, DueCase
from tests.test_interface import FUNCTIONS
from tests.test_ratios import NO_RATIOS
from tests.test_straights import NO_STRAIGHTS, THREE

# All charts have so many lines, but those that are `small`, so that the same arguments fit them all.
SIZE = 10
FAN = Chart.fan(SIZE)
LINES = list(range(SIZE))
NOT_SOUND = {"chart": ((UNSOUND + Chart.fan(6), (0, 1, 2, 3)), (Chart.fan(6) + UNSOUND, (6, 7, 8, 9)),
                       (Chart.fan(2) + UNSOUND + UNSOUND, (2, 3, 4, 5))),
             "small": ((UNSOUND, (0, 1, 2, 3)), (Chart.fan(1) + UNSOUND, (1, 2, 3, 4)))}
NOT_SIMPLE = {"chart": ((WITH_KNOT + Chart.fan(6), (0, 1, 2)), (Chart.fan(5) + Chart(5, [0] * 10), (5, 6, 7, 8, 9))),
              "small": ((WITH_KNOT, (0, 1, 2)), (Chart(4, [0] * 4), (0, 1, 2, 3)))}


def kinds(word, *values):
    return [(value, BadKind, {"word": word}) for value in values]


def numbers(word, *values):
    return [(value, BadNumber, {"word": word}) for value in (*NO_INTEGERS, *values)]


def names(size=SIZE):
    return [(value, BadLine, {"line": value}) for value in (*NO_INTEGERS, size, -1)]


def lots(word, good):
    """What is no list, and what has an entry that is no line or occurred before, with more of this behind it."""
    found = kinds(word, *NO_LISTS)
    for value, error, told in names():
        found += [([*good[:at], *[value] * (len(good) - at)], error, told) for at in (0, len(good) - 1)]
    return found + [((*good[:-2], good[0], good[0]), BadLine, {"line": good[0]})]


def just(word, many):
    """What is no lot of just so many lines."""
    return kinds(word, [], LINES[:many - 1], [*LINES[:many], 99]) + lots(word, LINES[:many])


def orders(word):
    return kinds(word, *NO_LISTS, [], LINES[1:], [*LINES[1:], 1], [*LINES[1:], False], [*LINES[1:], "0"])


# For each kind of argument a good value, what is wrong with others ahead of Unsound, and behind Unsound and NotSimple.
KINDS = {
    "chart": (FAN, kinds("chart", *NO_CHARTS), []),
    "small": (Chart.fan(2), kinds("chart", *NO_CHARTS), []),
    "drawing": (Drawing.of(FAN), kinds("drawing", *NO_CHARTS, FAN), []),
    "straight": (THREE, kinds("straight", *NO_STRAIGHTS), []),
    "sheet": (Sheet(Drawing.of(FAN)), kinds("sheet", *NO_CHARTS, FAN), []),
    "line": (0, names(), []),
    "second": (1, [*names(), (0, BadLine, {"line": 0})], []),
    "third": (2, [*names(), (0, BadLine, {"line": 0}), (1, BadLine, {"line": 1})], []),
    "later": (9, [*names(), (0, BadLine, {"line": 0})], []),
    "lot": ([3, 1], lots("lot", [3, 1]), []),
    "lot16": ([0, 4, 3], kinds("lot", *NO_LISTS) + [([1, *[value] * 2], *more) for value, *more in names(16)], []),
    "one": ([3], kinds("lot", [], ()) + lots("lot", [3, 1]), []),
    "some": ([0, 4, 3], lots("lot", [3, 1]), []),
    "other": ([1, 2, 9], lots("other", [2, 1]) + [([1, 4, 0], BadLine, {"line": 4})], []),
    "tie": ([2, 0, 1], kinds("lot", [], [0, 1], (99, 99)) + lots("lot", [3, 1, 2]), []),
    "place": ([1, 0], lots("lot", [3, 1]), [([2, 0], NotPlace, {"three": (0, 1, 2)})]),
    "rest": ([1, 2], lots("lot", [3, 1]), [([1, 3], NotPlace, {"three": (1, 2, 3)})]),
    "pair": ([9, 8], just("pair", 2), []),
    "chord": ([7, 6], just("other", 2), []),
    "three": ([9, 8, 7], just("three", 3), []),
    "triangle": ([1, 0, 2], just("three", 3), [((3, 0, 1), NotTriangle, {"three": (0, 1, 3)})]),
    "four": ([9, 8, 7, 6], just("four", 4), []),
    "five": ([9, 8, 7, 6, 5], just("five", 5), []),
    "nine": (LINES[1:], just("lines", 9), []),
    "ten": (LINES, just("lines", 10), []),
    "sign": (1, numbers("sign", 0, 2, -2), []),
    "side": (-1, numbers("side", 0, 2, -2), []),
    "begun": (LINES, orders("order"), [([0, 2, 1, *LINES[3:]], NotPlace, {"three": (0, 1, 2)})]),
    "order": (LINES, orders("order"), [([1, *LINES[:1], *LINES[2:]], NotPlace, {"three": (0, 1, 2)})]),
    "behind": (LINES, orders("other"), [([1, *LINES[:1], *LINES[2:]], NotPlace, {"three": (0, 1, 2)})]),
    "names": (LINES, orders("names"), []),
    "knot": ([1, 0], [], kinds("knot", *NO_LISTS, [], [0], [0, 1, 2], (0, 0), (0, 10), [None, 1])),
    "knots": ([(1, 0)], kinds("knots", *NO_LISTS), kinds("knot", [(1, 0), None], [[0, 2, 1], (0, 1), (1, 0)])),
    "steps": ([[(1, 0)]], kinds("steps", *NO_LISTS, [None], [[], 3]), kinds("knot", [[(0, 1)], [(0, 1, 2), None]])),
    "threes": ([], kinds("threes", *NO_LISTS) + kinds("three", [(0, 1, 2), [0, 1], None])
               + [([(0, 1, 1), None], BadLine, {"line": 1})], []),
    "stretch": ([1, 2], kinds("stretch", *NO_LISTS, [], [1], (0, 1, 2), (0, None), [True, 1]),
                kinds("stretch", [2, 1], (1, 1), [0, 1], [99, 99])),
    "path": ([2, 2], kinds("lines", *NO_LISTS) + [([0, 0, value, 99], error, told) for value, error, told in names()],
             []),
    "table": ([[99] * SIZE] * SIZE, kinds("table", *NO_LISTS, [], [[0] * SIZE] * 9, [[0] * 9] * SIZE,
                                          [[None] * SIZE] * SIZE), []),
    "row": ([0, 1, 2], kinds("row", *NO_LISTS, [], [1], [0, 0], [0, 1, 3], [True, 0], list(range(17))), []),
    "turn": ((0, 2), [(value, BadTurn, {"at": 0}) for value in (*NO_LISTS, [], [0], (0, 1), (2, 2), (True, 2))], []),
    "text": ("", kinds("text", None, 3, b"", ["lines 1"]), []),
    "signs": ([], [], [(value, BadSigns, {"at": -1}) for value in (None, "", [1], (0,))]),
    "x": (0, kinds("x", *NO_RATIOS), []), "y": (7, kinds("y", *NO_RATIOS), []),
    "slope": (1, kinds("slope", *NO_RATIOS), []), "height": (1, kinds("height", *NO_RATIOS), []),
    "low": (1, kinds("first", *NO_RATIOS), []), "high": (1, kinds("second", *NO_RATIOS), []),
    "ratio": (1, kinds("ratio", *NO_RATIOS), []),
    "joined": (((1,),), [], kinds("joined", None, (1,), ((2, 0),), [(1,)])),
    "product": ("F", kinds("word", None, "f", "FG", 1), []),
    "entries": ([], kinds("entries", *NO_LISTS, [None], [((0, 1, 2, 3, 4), "F", "F", True)]), []),
}

ANY, SOUND, SIMPLE = range(3)
# A kind with two bounds is an integer between them, with the word that the error has.
TABLE = {
    ANY: """
rules.row_of chart four | rules.ahead chart line second third | rules.ring chart line | rules.ringed chart
texts.chart_text chart | texts.chart_from text | texts.lot_text lot16 | texts.lot_from text size:1:16
threes.threes size:1:16 | threes.fours size:1:16
rows.first_row size:1:16 | rows.last_row size:1:16 | rows.is_rising row turn | rows.turned row turn
rows.highest row j:0:3 | rows.stand row line | links.ring_of_links chart
exchanges.is_far drawing at:0:43 | exchanges.exchanged drawing at:0:43
exchanges.orders_apart drawing drawing | exchanges.exchange_way drawing drawing | loose.simple_count size:1:5
places.wrong_three chart lot | places.wrong_count chart lot | places.endless size:1:16
places.is_endless size:1:16 late | walks.distance lot16 lot16 | lefts.share_of lot16 lot16
doors.weight step share:0:99 many:1:99 | doors.told_left size:1:16 late late | doors.told_right size:1:16 late late
lots.told_doors size:1:16 late | along.told_along size:1:16 line edge | counters.best_row drawing lot
shallow.shallow_least depth:0:99 | arms.arms a:1:99 b:1:99 c:1:99 | arms.arm_of a:1:99 b:1:99 c:1:99 line3
convex.least_convex size:1:99 | sandwiches.sandwich_odd lot16 other16 first:1:3 second:1:3
balance.middle_bound size:1:99 | lastlines.lots_along size:1:16 name:0:1 late
zones.zone_most size:2:16 | counting.all_charts size:1:5 | counting.chart_count size:1:6
cups.most_lines cup:1:99 cap:1:99 | beside.stairs cup:1:99 cap:1:99 | scattered.near_point size:3:16 line1 after
bricks.bricks_of size:1:16 | bricks.brick_steps size:1:16 | joined.opposite size:1:16 late | overs.least_steps size:1:16
straights.three_number straight three3 | straights.order_by_x straight | straights.drawing_by_x straight
straights.place_at straight x y | straights.moved straight slope height x | straights.scaled straight slope height
ratios.compare low high | ratios.mean low high | ratios.ratio_text ratio | fives.threes_of five16 product
fives.five_numbers straight late | shifts.new_name size:1:16 late late | shifts.all_shifts drawing
listings.sheet_lines sheet | .Chart size:1:16 late | .Chart_fan size:1:16 | .Chart_told size:1:16 late
.Chart_part one | .Chart_sign three | .Drawing size:1:16 late | .Drawing_first_row size:1:16 | .Weight lot16
.Watch lot16 | .Watch_call drawing | .Sheet drawing | .Trial sheet | .Straight_meeting pair | .Going straight late""",
    SOUND: """
rules.meetings chart line | links.knot_of chart pair | links.knots_of chart | links.linked chart knot knot
links.ahead_of chart knot | links.closed chart knots | links.is_closed chart knots | links.ready chart knots
links.is_order chart knots | drawn.drawing_along chart knots | drawn.normal_order chart | drawn.row_after chart knots
drawn.count_rows chart | steps.steps_of chart | steps.is_steps chart steps | steps.longest_chain chart
crossings.side_of chart pair line | crossings.above chart pair | crossings.depth chart pair
crossings.edges_of chart knot | crossings.edge_of chart pair | crossings.knots_over chart edge:1:9
loose.loosened chart knot signs | loose.count_loosenings chart | loose.loosenings chart
loose.whole_loosened chart sign | ties.parting chart tie | ties.can_tie chart tie | ties.tied chart tie
ties.tie_lots chart | ends.first_on chart line | ends.last_on chart line | ends.first_knots chart
ends.last_knots chart | places.is_place chart lot | places.all_places chart | places.level_places chart many:0:10
sides.upper_sides chart place | sides.lower_sides chart place | sides.sides chart place
sides.left_corner chart place | sides.right_corner chart place | sides.is_bounded chart place
sides.across chart place line | sides.side_sum chart | walks.step_toward chart place place
walks.walk chart place place | walks.is_walk chart place path | lefts.left_knots chart place
lefts.right_knots chart place | lefts.abreast chart place | lefts.order_through chart place | lefts.row_at chart place
lefts.split_by chart rest line | doors.left_doors chart place edge:1:9 | doors.right_doors chart place edge:1:9
doors.door_list chart place edge:1:9 | doors.door_table chart place | along.level_line chart level:0:9
counters.gains chart lot knot | lastlines.put_in chart name:0:10 begun | lastlines.order_of chart line
lastlines.taken_out chart line | lastlines.orders chart name:0:10 | lastlines.count_orders chart name:0:10
lastlines.both chart order behind | lastlines.either chart order behind | through.names_through chart place place
through.order_through_places chart name:0:10 place place | through.goes_through chart name:0:10 begun place
counting.extensions chart | cups.is_cup chart one | cups.is_cap chart one | beside.beside_of chart small
beside.beside_all chart small | scattered.is_scattered chart | scattered.is_near_point chart
scattered.knot_sizes chart | scattered.plain_knots chart | bricks.orders_of_steps chart steps
joined.joined_places chart | joined.joined_sides chart joined | joined.joined_sum chart
overs.crossing_sum chart edge:1:9 | overs.line_knots chart line | ninths.is_ninth chart nine
ninths.is_tenth chart ten | ninths.find_ninth chart | fives.tellings chart five | families.family chart
families.least_of chart | families.carriers chart chart | families.same_family chart chart | families.own_turns chart
shifts.shifted chart knot | shifts.shifted_back chart knot | shifts.point_signs chart names
listings.door_lines chart place | .Drawing_of chart | .Paper chart | .Ninth chart nine | .Tenth chart ten
.Tellings chart entries | .Weight_call chart edge:1:9 knot""",
    SIMPLE: """
crossings.edge_counts chart | lots.lot_doors chart lot | lots.right_lot_doors chart lot
along.along chart line edge:1:9 | triangles.is_triangle chart three | triangles.triangles chart
triangles.turned_over chart triangle | triangles.triangle_place chart triangle
triangles.triangles_on chart line side | triangles.with_sign chart sign | closings.closing_sides chart place
closings.triangle_sum chart | closings.stretches chart line | closings.closing_place chart line stretch
turnings.way_to_fan chart sign | turnings.is_way chart threes | turnings.behind_way chart threes
turnings.differ chart chart | turnings.some_way chart chart | turnings.bounds chart chart
turnings.both_ways chart triangle triangle | gaps.counts_behind chart triangle | gaps.edge_sum chart
gaps.edge_sum_told chart | shallow.shallow chart depth:0:4 | shallow.shallow_list chart
shallow.split_off chart depth:1:4 | shallow.passing chart depth:1:4 | shallow.swept chart depth:1:4
hulls.hull chart | hulls.hull_edges chart | hulls.lower_hull chart | hulls.upper_hull chart | hulls.layers chart
fours.is_convex chart four | fours.inner_point chart four | fours.crossing_chords chart four
fours.parts_ends chart pair chord | fours.cross chart pair chord | convex.convex_count chart
convex.convex_by_edges chart | convex.convex_by_shallow chart | convex.convex_change chart triangle
convex.middle_signs chart | insides.within chart line three | insides.holding chart line
insides.inside_count chart line | insides.left_of chart line second | insides.inside_told chart line
insides.empty_threes chart | middles.middle_chords chart | middles.degrees chart | middles.partners chart line
middles.crossing_pairs chart | middles.balance_of chart | middles.parted chart place
sandwiches.sandwiches_of chart some other first:1:3 second:1:3 | sandwiches.halving chart some other
balance.middle_change chart triangle | balance.is_tight chart | zones.zone chart line | zones.zone_sides chart line
zones.zone_sum chart line | cups.cup_table chart sign | cups.longest_cup chart | cups.longest_cap chart
cups.cup_size chart | cups.cap_size chart | cups.is_cup_table chart sign table | beside.bundle chart line small
polygons.is_round chart lot | polygons.round_marks chart lot | polygons.most_round chart | polygons.round_size chart
polygons.most_between chart line later sign | listings.census chart""",
}
# What the table tells under a name that begins with a dot.
OTHERS = {"Chart": Chart, "Chart_fan": Chart.fan, "Chart_told": Chart.told, "Chart_part": FAN.part,
          "Chart_sign": FAN.sign, "Drawing": Drawing, "Drawing_of": Drawing.of, "Drawing_first_row": Drawing.first_row,
          "Weight": Weight, "Weight_call": lambda chart, edge, knot: Weight([1, 0])(chart, knot, edge),
          "Watch": Watch, "Watch_call": Watch([9]), "Sheet": Sheet, "Trial": Trial, "Going": Going,
          "Straight_meeting": Straight(LINES, LINES).meeting, "Paper": Paper, "Ninth": Ninth, "Tenth": Tenth,
          "Tellings": Tellings}
# Arguments that are used in one place, where they depend on the good values ahead of them.
KINDS |= {
    "step": (1, numbers("step"), []),
    "edge": (1, numbers("edge", 0, 1), []),
    "line1": (0, names(3), []),
    "line3": (0, names(3), []),
    "after": (1, numbers("after", 0, 2, -2), []),
    "three3": ([2, 0, 1], kinds("three", *NO_LISTS, [], [0, 1]) + [([0, 3, 9], BadLine, {"line": 3})], []),
    "five16": ([15, 0, 1, 2, 3], kinds("five", *NO_LISTS, [0, 1, 2, 3])
               + [([0, 16, 99, 1, 1], BadLine, {"line": 16})], []),
    "other16": ([15, 1, 2], kinds("other", *NO_LISTS) + [([1, *[value] * 2], *more) for value, *more in names(16)]
                + [([1, 4, 0], BadLine, {"line": 4})], []),
    "late": (None, [], []),
}
# Functions that refuse the good values for what they ask beside their kinds.
NEED_MORE = ("drawn.drawing_along", "bricks.orders_of_steps", "shifts.shifted_back")
# Functions that take neither a chart nor anything that belongs to one.
FREE = {"numbers.is_int", "numbers.check_int", "numbers.choose", "threes.order_sign", "threes.lot_of", "threes.pair_of",
        "threes.three_of", "threes.four_of", "threes.inside", "threes.unlike", "rules.is_good",
        "closings.closing_by_names", "convex.by_middle", "ninths.nine_points", "ninths.ten_points"}


def rows_of(text):
    """The functions of a part of the table: the name, the function itself, and the kinds of its arguments."""
    for part in text.replace("\n", "|").split("|"):
        if part.strip():
            name, *told = part.split()
            module, _, word = name.partition(".")
            call = OTHERS[word] if not module else getattr(importlib.import_module("bentlines." + module), word)
            yield name, begun(call), [kind_of(word) for word in told]


def kind_of(word):
    """The word of a kind, its good value and its wrong values of both sorts."""
    name, *bounds = word.split(":")
    if not bounds:
        return (word, *KINDS[word])
    least, most = map(int, bounds)
    # Where the upper bound is no bound of the document, nothing is asked of it.
    wrong = [least - 1] if most == 99 else [least - 1, most + 1]
    return (word, least, numbers(name, *wrong), [])


def begun(call):
    """A generator raises its errors when the iteration begins."""
    return (lambda *given: list(call(*given))) if inspect.isgeneratorfunction(call) else call


class WholeTest(DueCase):
    def every_row(self):
        for need, text in TABLE.items():
            for name, call, told in rows_of(text):
                yield need, name, call, told

    def asked(self, name, value, error, attributes, call, given):
        with self.subTest(function=name, value=value):
            self.due(error, attributes, call, *given)

    def test_all_functions_are_there(self):
        found = [name for _, name, _, _ in self.every_row() if not name.startswith(".")]
        told = {f"{module}.{heading.split('(')[0]}" for module, headings in FUNCTIONS.items() for heading in headings}
        self.assertEqual(sorted(told - FREE), sorted(found))

    def test_good_values_are_good(self):
        """Nothing is refused for its kind if nothing is wrong with it."""
        for need, name, call, told in self.every_row():
            if need != ANY and name not in NEED_MORE:
                with self.subTest(function=name):
                    call(*[good for _, good, _, _ in told])

    def test_wrong_values(self):
        """From left to right, ahead of charts that are not sound and of all that is wrong behind them."""
        for _, name, call, told in self.every_row():
            for at, (_, _, wrong, _) in enumerate(told):
                begin = [NOT_SOUND[word][0][0] if word in NOT_SOUND else good for word, good, _, _ in told[:at]]
                for value, error, attributes in wrong:
                    self.asked(name, value, error, attributes, call, [*begin, value, *[None] * (len(told) - at - 1)])

    def charts_at(self, told, table):
        """All ways to put charts of this table in the place of the first chart, or of a later one, or of all."""
        places = [at for at, kind in enumerate(told) if kind[0] in table]
        for first in places:
            for others in ([], [at for at in places if at > first]):
                for chart, answer in table[told[first][0]]:
                    given = [late[0][0] if late else good for _, good, _, late in told]
                    given[first] = chart
                    for at in others:
                        given[at] = table[told[at][0]][-1][0]
                    yield given, answer

    def test_charts_that_are_not_sound(self):
        """Ahead of what is asked behind Unsound."""
        for need, name, call, told in self.every_row():
            if need != ANY:
                for given, four in self.charts_at(told, NOT_SOUND):
                    self.asked(name, given, Unsound, {"four": four}, call, given)

    def test_charts_that_are_not_simple(self):
        """Ahead of what else is asked, but behind any chart that is not sound."""
        for need, name, call, told in self.every_row():
            if need == SIMPLE:
                for given, knot in self.charts_at(told, NOT_SIMPLE):
                    self.asked(name, given, NotSimple, {"knot": knot}, call, given)
                places = [at for at, kind in enumerate(told) if kind[0] in NOT_SOUND]
                if len(places) == 2:
                    given = [good for _, good, _, _ in told]
                    given[places[0]] = NOT_SIMPLE[told[places[0]][0]][0][0]
                    given[places[1]], four = NOT_SOUND[told[places[1]][0]][0]
                    self.asked(name, given, Unsound, {"four": four}, call, given)

    def test_what_is_asked_behind(self):
        """Places, triangles, knots and orders, again from left to right."""
        for need, name, call, told in self.every_row():
            if need != ANY:
                for at, (_, _, _, late) in enumerate(told):
                    begin = [good for _, good, _, _ in told[:at]]
                    behind = [more[0][0] if more else good for _, good, _, more in told[at + 1:]]
                    for value, error, attributes in late:
                        self.asked(name, value, error, attributes, call, [*begin, value, *behind])


if __name__ == "__main__":
    unittest.main()
