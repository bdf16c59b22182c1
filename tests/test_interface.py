"""The interface: each name under its heading, with its arguments, defined in that very file."""

import ast
import importlib
import inspect
import unittest

from bentlines.charts import Chart
from bentlines.counters import Watch
from bentlines.counting import all_charts, extensions
from bentlines.doors import Weight
from bentlines.drawings import Drawing
from bentlines.fives import Ninth, Paper, Tellings, Tenth
from bentlines.going import Going
from bentlines.lastlines import orders
from bentlines.links import ring_of_links
from bentlines.loose import loosenings
from bentlines.places import all_places
from bentlines.ratios import Ratio
from bentlines.rules import ring, ringed
from bentlines.sheets import Sheet, Trial
from bentlines.straights import Points, Straight
from bentlines.threes import fours, threes

FUNCTIONS = {
    "numbers": ("is_int(value)", "check_int(value, word, least, most)", "choose(n, k)"),
    "threes": ("threes(size)", "fours(size)", "order_sign(names)", "lot_of(value, size)", "pair_of(value, size)",
               "three_of(value, size)", "four_of(value, size)", "inside(lot, other)", "unlike(lot, other)"),
    "rules": ("row_of(chart, four)", "is_good(row)", "ahead(chart, line, first, second)", "ring(chart, line)",
              "ringed(chart)", "meetings(chart, line)"),
    "texts": ("chart_text(chart)", "chart_from(text)", "lot_text(lot)", "lot_from(text, size)"),
    "rows": ("first_row(size)", "last_row(size)", "is_rising(row, turn)", "turned(row, turn)", "highest(row, j)",
             "stand(row, line)"),
    "links": ("knot_of(chart, pair)", "knots_of(chart)", "linked(chart, knot, other)", "ahead_of(chart, knot)",
              "closed(chart, knots)", "is_closed(chart, knots)", "ready(chart, knots)", "is_order(chart, knots)",
              "ring_of_links(chart)"),
    "drawn": ("drawing_along(chart, knots)", "normal_order(chart)", "row_after(chart, knots)", "count_rows(chart)"),
    "exchanges": ("is_far(drawing, at)", "exchanged(drawing, at)", "orders_apart(drawing, other)",
                  "exchange_way(drawing, other)"),
    "steps": ("steps_of(chart)", "is_steps(chart, steps)", "longest_chain(chart)"),
    "crossings": ("side_of(chart, pair, line)", "above(chart, pair)", "depth(chart, pair)", "edges_of(chart, knot)",
                  "edge_of(chart, pair)", "edge_counts(chart)", "knots_over(chart, edge)"),
    "loose": ("simple_count(size)", "loosened(chart, knot, signs)", "count_loosenings(chart)", "loosenings(chart)",
              "whole_loosened(chart, sign)"),
    "ties": ("parting(chart, lot)", "can_tie(chart, lot)", "tied(chart, lot)", "tie_lots(chart)"),
    "ends": ("first_on(chart, line)", "last_on(chart, line)", "first_knots(chart)", "last_knots(chart)"),
    "places": ("wrong_three(chart, lot)", "wrong_count(chart, lot)", "is_place(chart, lot)", "all_places(chart)",
               "endless(size)", "is_endless(size, lot)", "level_places(chart, many)"),
    "sides": ("upper_sides(chart, place)", "lower_sides(chart, place)", "sides(chart, place)",
              "left_corner(chart, place)", "right_corner(chart, place)", "is_bounded(chart, place)",
              "across(chart, place, line)", "side_sum(chart)"),
    "walks": ("distance(lot, other)", "step_toward(chart, place, other)", "walk(chart, place, other)",
              "is_walk(chart, place, lines)"),
    "lefts": ("left_knots(chart, place)", "right_knots(chart, place)", "abreast(chart, place)",
              "share_of(knot, place)", "order_through(chart, place)", "row_at(chart, place)",
              "split_by(chart, place, line)"),
    "doors": ("weight(step, share, many)", "told_left(size, lot, edge)", "told_right(size, lot, edge)",
              "left_doors(chart, place, edge)", "right_doors(chart, place, edge)", "door_list(chart, place, edge)",
              "door_table(chart, place)"),
    "lots": ("lot_doors(chart, lot)", "right_lot_doors(chart, lot)", "told_doors(size, lot)"),
    "along": ("along(chart, line, edge)", "told_along(size, line, edge)", "level_line(chart, level)"),
    "counters": ("gains(chart, lot, knot)", "best_row(drawing, lot)"),
    "triangles": ("is_triangle(chart, three)", "triangles(chart)", "turned_over(chart, three)",
                  "triangle_place(chart, three)", "triangles_on(chart, line, side)", "with_sign(chart, sign)"),
    "closings": ("closing_sides(chart, place)", "closing_by_names(upper, lower)", "triangle_sum(chart)",
                 "stretches(chart, line)", "closing_place(chart, line, stretch)"),
    "turnings": ("way_to_fan(chart, sign=1)", "is_way(chart, threes)", "behind_way(chart, threes)",
                 "differ(chart, other)", "some_way(chart, other)", "bounds(chart, other)",
                 "both_ways(chart, three, other)"),
    "gaps": ("counts_behind(chart, three)", "edge_sum(chart)", "edge_sum_told(chart)"),
    "shallow": ("shallow(chart, depth)", "shallow_list(chart)", "shallow_least(depth)", "split_off(chart, depth)",
                "passing(chart, depth)", "swept(chart, depth)"),
    "arms": ("arms(a, b, c, *, inner=())", "arm_of(a, b, c, line)"),
    "hulls": ("hull(chart)", "hull_edges(chart)", "lower_hull(chart)", "upper_hull(chart)", "layers(chart)"),
    "fours": ("is_convex(chart, four)", "inner_point(chart, four)", "crossing_chords(chart, four)",
              "parts_ends(chart, pair, other)", "cross(chart, pair, other)"),
    "convex": ("convex_count(chart)", "convex_by_edges(chart)", "convex_by_shallow(chart)", "least_convex(size)",
               "convex_change(chart, three)", "middle_signs(chart)", "by_middle(signs)"),
    "insides": ("within(chart, point, three)", "holding(chart, point)", "inside_count(chart, point)",
                "left_of(chart, point, other)", "inside_told(chart, point)", "empty_threes(chart)"),
    "middles": ("middle_chords(chart)", "degrees(chart)", "partners(chart, point)", "crossing_pairs(chart)",
                "balance_of(chart)", "parted(chart, place)"),
    "sandwiches": ("sandwiches_of(chart, lot, other, first, second)", "sandwich_odd(lot, other, first, second)",
                   "halving(chart, lot, other)"),
    "balance": ("middle_change(chart, three)", "is_tight(chart)", "middle_bound(size)"),
    "lastlines": ("lots_along(size, name, order)", "put_in(chart, name, order)", "order_of(chart, line)",
                  "taken_out(chart, line)", "orders(chart, name)", "count_orders(chart, name)",
                  "both(chart, order, other)", "either(chart, order, other)"),
    "through": ("names_through(chart, place, other)", "order_through_places(chart, name, place, other)",
                "goes_through(chart, name, order, place)"),
    "zones": ("zone(chart, line)", "zone_sides(chart, line)", "zone_sum(chart, line)", "zone_most(size)"),
    "counting": ("all_charts(size)", "chart_count(size)", "extensions(chart)"),
    "cups": ("is_cup(chart, lot)", "is_cap(chart, lot)", "cup_table(chart, sign)", "longest_cup(chart)",
             "longest_cap(chart)", "cup_size(chart)", "cap_size(chart)", "is_cup_table(chart, sign, table)",
             "most_lines(cup, cap)"),
    "beside": ("beside_of(chart, other)", "beside_all(*charts)", "stairs(cup, cap)", "bundle(chart, line, other)"),
    "polygons": ("is_round(chart, lot)", "round_marks(chart, lot)", "most_round(chart)", "round_size(chart)",
                 "most_between(chart, first, last, sign)"),
    "scattered": ("is_scattered(chart)", "is_near_point(chart)", "near_point(size, line, after)",
                  "knot_sizes(chart)", "plain_knots(chart)"),
    "bricks": ("bricks_of(size)", "brick_steps(size)", "orders_of_steps(chart, steps)"),
    "joined": ("opposite(size, place)", "joined_places(chart)", "joined_sides(chart, joined)", "joined_sum(chart)"),
    "overs": ("crossing_sum(chart, edge)", "line_knots(chart, line)", "least_steps(size)"),
    "ratios": ("compare(first, second)", "mean(first, second)", "ratio_text(ratio)"),
    "straights": ("three_number(straight, three)", "order_by_x(straight)", "drawing_by_x(straight)",
                  "place_at(straight, x, y)", "moved(straight, slope, height, x)",
                  "scaled(straight, slope, height)"),
    "ninths": ("nine_points(first, second, third, fourth, fifth, sixth)", "ten_points(centre, a, b, c, d, e, f)",
               "is_ninth(chart, lines)", "is_tenth(chart, lines)", "find_ninth(chart)"),
    "fives": ("tellings(chart, five)", "five_numbers(straight, five)", "threes_of(five, word)"),
    "families": ("family(chart)", "least_of(chart)", "carriers(chart, other)", "same_family(chart, other)",
                 "own_turns(chart)"),
    "shifts": ("shifted(chart, knot)", "shifted_back(chart, knot)", "new_name(size, knot, line)",
               "all_shifts(drawing)", "point_signs(chart, names)"),
    "listings": ("door_lines(chart, place)", "sheet_lines(sheet)", "census(chart)"),
}

CLASSES = {
    Chart: ("charts", "__init__(self, size, signs)", "sign(self, names)", "part(self, lot)", "contrary(self)",
            "mirrored(self)", "rolled(self, times=1)", "__neg__(self)", "__invert__(self)",
            "__rshift__(self, other)", "__lshift__(self, other)", "__add__(self, other)", "__getitem__(self, at)",
            "__eq__(self, other)", "__len__(self)", "__iter__(self)"),
    Drawing: ("drawings", "__init__(self, size, turns)", "rows(self)", "row_behind(self, many)", "knots(self)",
              "chart(self)", "mirrored(self)", "__eq__(self, other)", "__len__(self)", "__iter__(self)"),
    Weight: ("doors", "__init__(self, lot)", "__call__(self, chart, knot, edge)"),
    Watch: ("counters", "__init__(self, lot)", "__call__(self, drawing)"),
    Ratio: ("ratios", "__init__(self, top, bottom=1)", "divided(self, other)", "signum(self)",
            "__add__(self, other)", "__radd__(self, other)", "__sub__(self, other)", "__rsub__(self, other)",
            "__mul__(self, other)", "__rmul__(self, other)", "__neg__(self)", "__eq__(self, other)",
            "__bool__(self)"),
    Straight: ("straights", "__init__(self, slopes, heights)", "chart(self)", "height_at(self, line, x)",
               "meeting(self, pair)"),
    Points: ("straights", "__init__(self, points)", "point(self, line)", "turns_left(self, three)"),
    Going: ("going", "__init__(self, straight, heights)", "times(self)", "chart_at(self, time)", "charts(self)",
            "turnings(self)"),
    Paper: ("fives", "__init__(self, subject)", "holds(self)", "words(self)"),
    Ninth: ("fives", "__init__(self, subject, lines)", "holds(self)", "words(self)"),
    Tenth: ("fives", "__init__(self, subject, lines)", "holds(self)", "words(self)"),
    Tellings: ("fives", "__init__(self, subject, entries)", "holds(self)", "words(self)"),
    Sheet: ("sheets", "__init__(self, drawing, *, most=200)", "call_it(self, word)", "chart(self)",
            "exchange(self, at)", "turn_over(self, three)", "tie(self, lot)", "loosen(self, knot, signs)",
            "put(self, name, order)", "put_through(self, place, other, name)", "take(self, line)",
            "roll(self, times)", "mirror(self)", "half_turn(self)", "shift(self, knot)", "lay_beside(self, other)",
            "become(self, chart)", "back(self)", "records(self)", "tried(self, deeds)"),
    Trial: ("sheets", "__init__(self, sheet)", "__enter__(self)", "__exit__(self, kind, value, trace)"),
}


class InterfaceTest(unittest.TestCase):
    def test_functions(self):
        for module, headings in FUNCTIONS.items():
            found = importlib.import_module("bentlines." + module)
            for heading in headings:
                name = heading.split("(")[0]
                function = vars(found)[name]
                self.assertEqual(heading, name + str(inspect.signature(function)))
                self.assertEqual("bentlines." + module, function.__module__)

    def test_classes(self):
        for made, (module, *headings) in CLASSES.items():
            self.assertEqual("bentlines." + module, made.__module__)
            for heading in headings:
                name = heading.split("(")[0]
                self.assertEqual(heading, name + str(inspect.signature(vars(made)[name])))

    def test_class_methods_and_properties(self):
        for name in ("fan", "told"):
            self.assertIsInstance(vars(Chart)[name], classmethod)
        for name in ("bad", "sound", "simple", "marks"):
            self.assertIsInstance(vars(Chart)[name], property)
        self.assertIsInstance(vars(Drawing)["of"], classmethod)
        self.assertIsInstance(vars(Drawing)["first_row"], staticmethod)
        self.assertIsInstance(vars(Ratio)["whole"], classmethod)
        for made, name in ((Going, "plain"), (Sheet, "done"), (Sheet, "name")):
            self.assertIsInstance(vars(made)[name], property)
        self.assertEqual((Straight, Paper, Paper, Paper), tuple(
            made.__base__ for made in (Points, Ninth, Tenth, Tellings)))

    def test_yielding(self):
        self.assertTrue(inspect.isgenerator(threes(3)))
        self.assertTrue(inspect.isgenerator(fours(3)))
        self.assertTrue(inspect.isgenerator(Drawing(1, []).rows()))
        self.assertTrue(inspect.isgenerator(loosenings(Chart.fan(3))))
        self.assertTrue(inspect.isgenerator(all_places(Chart.fan(3))))
        self.assertTrue(inspect.isgenerator(orders(Chart.fan(3), 3)))
        self.assertTrue(inspect.isgenerator(all_charts(3)))
        self.assertTrue(inspect.isgenerator(extensions(Chart.fan(3))))

    def test_the_package_itself_has_no_names(self):
        with open(importlib.import_module("bentlines").__file__, encoding="ascii") as file:
            body = ast.parse(file.read()).body
        self.assertEqual([ast.Expr], [part.__class__ for part in body])


class SameAnswersTest(unittest.TestCase):
    """[1] Equal arguments always give equal answers, and what is returned is new."""

    def test_made_charts_are_new(self):
        chart = Chart.fan(3)
        for other in (chart.rolled(0), chart >> 6, chart.part([0, 1, 2]), ~~chart):
            self.assertEqual(chart, other)
            self.assertIsNot(chart, other)

    def test_equal_answers(self):
        bad = Chart.told(5, "+-++-+-+0-")
        again = Chart(5, list(bad))
        self.assertEqual(ringed(bad), ringed(again))
        self.assertEqual([ring(bad, line) for line in range(5)], [ring(again, line) for line in range(5)])
        self.assertEqual(ring_of_links(Chart.told(4, "+-++")), ring_of_links(Chart(4, (1, -1, 1, 1))))


if __name__ == "__main__":
    unittest.main()
