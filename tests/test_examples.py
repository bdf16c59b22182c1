"""All examples of the document."""

import unittest

from bentlines.along import along, level_line
from bentlines.arms import arms
from bentlines.balance import is_tight, middle_change
from bentlines.beside import bundle, stairs
from bentlines.bricks import brick_steps, bricks_of, orders_of_steps
from bentlines.charts import Chart
from bentlines.closings import closing_by_names
from bentlines.convex import convex_change, convex_count, least_convex, middle_signs
from bentlines.counters import Watch, best_row, gains
from bentlines.crossings import above, depth, edge_counts, knots_over
from bentlines.cups import cap_size, cup_size, cup_table, is_cup_table, longest_cup, most_lines
from bentlines.doors import Weight, door_list, door_table, weight
from bentlines.drawings import Drawing
from bentlines.drawn import count_rows, row_after
from bentlines.ends import first_knots, last_knots
from bentlines.errors import BadText
from bentlines.exchanges import exchanged, orders_apart
from bentlines.families import family, least_of, own_turns
from bentlines.fives import Tellings, tellings
from bentlines.fours import crossing_chords, inner_point, is_convex
from bentlines.gaps import counts_behind
from bentlines.going import Going
from bentlines.hulls import hull_edges, layers, lower_hull, upper_hull
from bentlines.insides import inside_count, left_of
from bentlines.joined import joined_places, joined_sides, joined_sum
from bentlines.lastlines import both, count_orders, either, lots_along, orders, put_in
from bentlines.lefts import abreast, left_knots, right_knots, row_at, split_by
from bentlines.links import closed, ready
from bentlines.listings import door_lines, sheet_lines
from bentlines.loose import loosened, loosenings
from bentlines.lots import lot_doors, told_doors
from bentlines.middles import balance_of, crossing_pairs, degrees, middle_chords, partners
from bentlines.ninths import is_ninth, nine_points
from bentlines.overs import crossing_sum, line_knots
from bentlines.places import all_places, wrong_count
from bentlines.polygons import is_round, most_between, most_round, round_marks
from bentlines.ratios import Ratio, ratio_text
from bentlines.rules import ahead, meetings, ring
from bentlines.sandwiches import halving, sandwich_odd, sandwiches_of
from bentlines.scattered import is_near_point, knot_sizes, near_point, plain_knots
from bentlines.shallow import passing, shallow_list, split_off, swept
from bentlines.sheets import Sheet
from bentlines.shifts import all_shifts, point_signs, shifted
from bentlines.sides import across, left_corner, lower_sides, right_corner, upper_sides
from bentlines.steps import longest_chain, steps_of
from bentlines.straights import Straight, order_by_x, place_at
from bentlines.texts import chart_from
from bentlines.through import goes_through, names_through
from bentlines.ties import parting, tie_lots, tied
from bentlines.triangles import triangle_place, triangles, turned_over
from bentlines.turnings import both_ways, bounds, way_to_fan
from bentlines.zones import zone, zone_sides, zone_sum


class ExamplesTest(unittest.TestCase):
    def test_rules(self):
        chart = Chart.told(4, "++0-")
        bad = Chart.told(4, "+-++")
        found = (meetings(chart, 2), ahead(chart, 2, 1, 3), bad.bad, ring(bad, 2), sorted(ring(bad, 1)))
        self.assertEqual((((0, 3), (1,)), -1, (0, 1, 2, 3), None, [0, 2, 3]), found)

    def test_charts(self):
        chart = Chart.told(4, "+++0")
        found = ((chart >> 1).marks, (~chart).marks, (-chart).marks, chart[2, 1, 0], chart.part([3, 0, 1]).marks)
        self.assertEqual(("--0+", "0+++", "---0", -1, "+"), found)

    def test_texts(self):
        with self.assertRaises(BadText) as caught:
            chart_from("lines 4\n\nsigns ++")
        self.assertEqual(3, caught.exception.number)

    def test_exchanges(self):
        drawing = Drawing.of(Chart.fan(4))
        other = exchanged(drawing, 2)
        told = (((0, 2), (1, 2), (0, 2), (2, 2), (1, 2), (0, 2)),
                ((0, 1), (0, 2), (0, 3), (1, 2), (1, 3), (2, 3)), 1)
        self.assertEqual(told, (drawing.turns, other.knots(), orders_apart(drawing, other)))

    def test_rows(self):
        chart = Chart.fan(4)
        lot = closed(chart, [[2, 0]])
        told = (((0, 1), (0, 2)), ((0, 3), (1, 2)), (1, 2, 0, 3), 8)
        self.assertEqual(told, (lot, ready(chart, lot), row_after(chart, lot), count_rows(chart)))

    def test_steps(self):
        chart = Chart.told(4, "0+++")
        told = (((0, 3), (2, 2), (1, 2), (0, 2)), [(0, 1, 2), (0, 3), (1, 3), (2, 3)], [(0, 3), (1, 2)])
        self.assertEqual(told, (Drawing.of(chart).turns, longest_chain(chart), steps_of(Chart.fan(4))[2]))

    def test_crossings(self):
        chart = Chart.fan(4)
        self.assertEqual(((1, 2), 1, (0, 3, 2, 1)), (above(chart, (3, 0)), depth(chart, (0, 2)), edge_counts(chart)))

    def test_ties(self):
        chart = Chart.fan(4)
        found = (tie_lots(chart), parting(chart, (0, 1, 3)), tied(chart, [2, 1, 0]).marks)
        self.assertEqual((((0, 1, 2), (0, 1, 2, 3), (1, 2, 3)), (2, (0, 1), (0, 3)), "0+++"), found)

    def test_loosenings_and_ends(self):
        chart = Chart.told(4, "0+++")
        found = list(loosenings(chart))
        told = (2, "-+++", "++++", ((0, 1, 2), (2, 3)), ((0, 1, 2),), ((2, 3),))
        self.assertEqual(told, (len(found), found[0].marks, found[1].marks, knots_over(chart, 1),
                                first_knots(chart), last_knots(chart)))

    def test_places(self):
        chart = Chart.told(3, "0")
        told = ([(), (0,), (0, 1), (0, 1, 2), (1, 2), (2,)], (0, 0, 1))
        self.assertEqual(told, (list(all_places(chart)), wrong_count(chart, (2, 0))))

    def test_sides(self):
        chart = Chart.told(4, "0+++")
        found = (upper_sides(chart, (2, 1)), lower_sides(chart, (2, 1)), left_corner(chart, (1, 2)),
                 right_corner(chart, (1, 2)), across(chart, (1, 2), 3))
        self.assertEqual(((1,), (0, 3), (1, 0), (1, 3), (1, 2, 3)), found)

    def test_lefts(self):
        chart = Chart.told(4, "0+++")
        found = (left_knots(chart, (1, 2)), right_knots(chart, (1, 2)), abreast(chart, (1, 2)), row_at(chart, (1, 2)),
                 split_by(chart, (0,), 2))
        self.assertEqual((((0, 1, 2),), ((1, 3), (2, 3)), ((0, 3),), (2, 1, 0, 3), (False, True)), found)

    def test_doors(self):
        chart = Chart.told(4, "0+++")
        found = (door_table(chart, (1, 2)), door_list(chart, (1, 2), 2), Weight((1, 2))(chart, (2, 1, 0), 1),
                 weight(2, 3, 4))
        told = (((1, 1), (1, 1), (0, 0)), [((0, 1, 2), 1, "left"), ((1, 3), 1, "right")], 1, 1)
        self.assertEqual(told, found)

    def test_counters(self):
        chart = Chart.told(4, "0+++")
        drawing = Drawing.of(chart)
        found = (Watch((2, 1))(drawing)[:2], best_row(drawing, (1, 2)), best_row(drawing, (1,)),
                 gains(chart, (1, 2), (1, 3)))
        self.assertEqual(([(0, 1, 2), (1, 2, 2)], (1, 0), (0, 1), (0, -1, 0)), found)

    def test_lots_and_along(self):
        chart = Chart.told(3, "-")
        found = (lot_doors(chart, (1,)), told_doors(3, (1,)), along(chart, 1, 2), level_line(chart, 1))
        self.assertEqual(((1, 2), (1, 1), ((2, 1), (0, -1)), (1, 2, 0, 1)), found)

    def test_triangles(self):
        fan = Chart.fan(4)
        behind = turned_over(fan, (2, 0, 1))
        found = (triangles(fan), behind.marks, triangles(behind), triangle_place(fan, (1, 2, 3)))
        self.assertEqual((((0, 1, 2), (1, 2, 3)), "-+++", ((0, 1, 2), (0, 1, 3)), (2,)), found)

    def test_turnings(self):
        chart = Chart.told(4, "--++")
        fan = Chart.fan(4)
        found = (way_to_fan(chart), bounds(chart, fan), both_ways(fan, (0, 1, 2), (1, 2, 3)))
        self.assertEqual(([(0, 1, 3), (0, 1, 2)], (2, 2), (None, None)), found)

    def test_closings_and_gaps(self):
        found = (closing_by_names([3, 0], [1, 2]), closing_by_names([4, 2, 0], [1, 3]),
                 counts_behind(Chart.fan(4), (1, 2, 3)))
        self.assertEqual(((0, 3), (), (0, 2, 3, 1)), found)

    def test_shallow(self):
        fan = Chart.fan(5)
        found = (shallow_list(fan), split_off(fan, 1), passing(fan, 1), swept(fan, 2))
        self.assertEqual(((0, 5, 10), (0, 2, 3), [(1, 2), (2, 3), (3, 4)], ((1, 2), (3, 4))), found)

    def test_arms_and_hulls(self):
        chart = arms(2, 1, 1)
        found = (chart.marks, lower_hull(chart), upper_hull(chart), hull_edges(chart), layers(chart))
        self.assertEqual(("+---", (0, 3), (0, 2, 3), ((0, 2), (0, 3), (2, 3)), [(0, 2, 3), (1,)]), found)

    def test_fours(self):
        chart = Chart.told(4, "+++-")
        found = (is_convex(chart, (3, 1, 0, 2)), inner_point(chart, [0, 1, 2, 3]), crossing_chords(chart, (0, 1, 2, 3)))
        self.assertEqual((False, 2, None), found)

    def test_convex(self):
        chart = Chart.fan(6)
        found = (convex_count(chart), least_convex(6), convex_change(chart, (1, 2, 3)), middle_signs(chart))
        self.assertEqual((15, 3, -3, (1, 1, 1, 1)), found)

    def test_insides(self):
        chart = arms(2, 2, 2)
        found = (convex_count(chart), inside_count(chart, 0), inside_count(chart, 1), inside_count(chart, 2),
                 left_of(chart, 0, 5))
        self.assertEqual((3, 0, 4, 0, 4), found)

    def test_middles(self):
        chart = Chart.fan(4)
        found = (middle_chords(chart), crossing_pairs(chart), balance_of(chart))
        self.assertEqual((((0, 2), (1, 3)), (((0, 2), (1, 3)),), (4, 1, 12)), found)

    def test_balance(self):
        chart = Chart.told(4, "-+++")
        found = (middle_change(Chart.fan(4), (0, 1, 2)), degrees(chart), partners(chart, 1), is_tight(chart))
        self.assertEqual((-1, (1, 3, 1, 1), ((0,), (2, 3)), False), found)

    def test_sandwiches(self):
        chart = Chart.fan(6)
        lot, other = (0, 2, 5), (1, 3, 4)
        found = (sandwiches_of(chart, lot, other, 1, 1), sandwich_odd(lot, other, 1, 1), halving(chart, lot, other))
        self.assertEqual((((0, 1), (2, 1), (2, 3), (5, 4)), False, (0, 3)), found)

    def test_lastlines(self):
        chart = Chart.fan(3)
        found = (list(orders(chart, 3)), count_orders(chart, 1), put_in(chart, 3, (2, 0, 1)).marks,
                 lots_along(3, 1, (1, 0, 2)))
        told = ([(0, 1, 2), (0, 2, 1), (2, 0, 1), (2, 1, 0)], 4, "++--", ((0,), (0, 1), (1,), (1, 2)))
        self.assertEqual(told, found)
        self.assertEqual(((2, 0, 1), (0, 2, 1)),
                         (both(chart, (0, 2, 1), (2, 0, 1)), either(chart, (0, 2, 1), (2, 0, 1))))

    def test_through(self):
        chart = Chart.fan(3)
        found = (names_through(chart, (0, 1), (2, 1)), goes_through(chart, 1, (1, 0, 2), [1]))
        self.assertEqual(((1, 2), True), found)

    def test_zones(self):
        chart = Chart.told(4, "++--")
        told = (((0, 1, 2), (0, 1), (1,), ()), ((0, 2), (0, 1, 2), (0, 1, 2), (0, 1, 2)), (6, 11))
        self.assertEqual(told, (zone(chart, 3), zone_sides(chart, 3), zone_sum(chart, 3)))

    def test_beside(self):
        chart = stairs(3, 3)
        found = (chart.marks, cup_size(chart), cap_size(chart), most_lines(3, 3),
                 bundle(Chart.fan(3), 1, Chart.fan(2)).marks)
        self.assertEqual(("-++++++---+++------+", 3, 3, 6, "-+++"), found)

    def test_cups(self):
        chart = Chart.told(4, "+---")
        found = (cup_table(chart, 1), longest_cup(chart), is_cup_table(chart, -1, cup_table(chart, 1)))
        self.assertEqual((((0, 0, 0, 0), (2, 0, 0, 0), (2, 3, 0, 0), (2, 2, 2, 0)), (0, 1, 2), False), found)

    def test_polygons(self):
        chart = Chart.told(4, "++--")
        found = (round_marks(chart, (3, 2, 1, 0)), most_round(chart), most_between(chart, 0, 3, -1),
                 is_round(-chart, [2]))
        self.assertEqual(((1, -1), (0, 1, 2, 3), 3, True), found)

    def test_bricks(self):
        chart = bricks_of(4).chart()
        found = (bricks_of(5).turns, brick_steps(4), orders_of_steps(chart, brick_steps(4)))
        told = (((0, 2), (3, 2), (1, 3), (0, 2), (3, 2), (1, 3)),
                [[(0, 1), (2, 3)], [(0, 3)], [(0, 2), (1, 3)], [(1, 2)]], [1, 1])
        self.assertEqual(told, found)

    def test_joined(self):
        fan = Chart.fan(3)
        self.assertEqual(([((), (0, 1, 2)), ((0,), (1, 2)), ((0, 1), (2,)), ((1,),)], 3),
                         (joined_places(fan), joined_sides(fan, ((), (0, 1, 2)))))

    def test_scattered(self):
        chart = near_point(4, 1, 1)
        found = (chart.marks, knot_sizes(chart), plain_knots(chart), is_near_point(chart), joined_sum(chart),
                 crossing_sum(chart, 2), line_knots(chart, 1))
        told = ("++0-", (2, 2, 2, 3), ((0, 1), (1, 2), (1, 3)), True, 3, 2, ((0, 1), (1, 3), (1, 2)))
        self.assertEqual(told, found)

    def test_straights(self):
        straight = Straight((0, 1, 2), [0, 1, 0])
        spot = straight.meeting((2, 1))
        found = (straight.chart().marks, ratio_text(spot[0]), ratio_text(spot[1]), order_by_x(straight),
                 place_at(straight, 0, Ratio(2, 4)))
        self.assertEqual(("+", "1", "2", ((0, 1), (0, 2), (1, 2)), (1,)), found)

    def test_going(self):
        going = Going(Straight((0, 1, 2), (0, 1, 0)), (0, -1, 0))
        first = going.times()[0]
        found = (ratio_text(first[0]), first[1], going.plain, going.turnings(), going.charts()[1].marks,
                 going.chart_at(Ratio(1, 2)).marks)
        self.assertEqual(("1/2", ((0, 1, 2),), True, [(0, 1, 2)], "-", "0"), found)

    def test_ninths(self):
        points, names = nine_points((0, 0), (2, 0), (5, 0), (1, 2), (4, 2), (7, 2))
        bent = loosened(points.chart(), (2, 4, 6), [1])
        found = (names, is_ninth(points.chart(), names), is_ninth(bent, names))
        self.assertEqual(((0, 3, 7, 1, 5, 8, 2, 4, 6), False, True), found)

    def test_fives(self):
        paper = Tellings(Chart.fan(5), [((2, 0, 1, 3, 4), "F", "G", True)])
        found = (tellings(Chart.fan(5), (2, 0, 1, 3, 4)), paper.holds(), paper.words())
        told = ((("F", "G", True), ("H", "G", True)), False, "chart of 5 lines\n2 0 1 3 4: F < G")
        self.assertEqual(told, found)

    def test_families(self):
        found = (len(family(Chart.fan(3))), least_of(Chart.fan(3)).marks, own_turns(Chart.fan(3)))
        told = (2, "-", [(0, False), (0, True), (2, False), (2, True), (4, False), (4, True)])
        self.assertEqual(told, found)

    def test_shifts(self):
        chart = Chart.told(4, "+++-")
        charts = all_shifts(Drawing.of(chart))
        found = (shifted(chart, (0, 1)).marks, point_signs(chart, [1, 0, 2, 3]), len(charts), charts[1].marks,
                 charts[-1].marks)
        self.assertEqual(("---+", (-1, -1, -1, 1), 7, "---+", "+---"), found)

    def test_sheets_and_listings(self):
        sheet = Sheet(Drawing.of(Chart.fan(3)))
        found = (sheet.turn_over((0, 1, 2)).marks, sheet.tie([0, 1, 2]).marks, sheet.records(),
                 sheet.tried([("loosen", (0, 1, 2), (1,))]).marks, sheet.back().marks, sheet.done)
        self.assertEqual(("-", "0", ("turn_over", "tie"), "+", "-", 1), found)
        told = (["name: ", "lines: 3", "edges: 1 2", "knots: 3", "done: 1"],
                ["   1   1   0", "   2   1   0", "   3   1   0"])
        self.assertEqual(told, (sheet_lines(sheet), door_lines(Chart.told(4, "+++-"), (3,))))


if __name__ == "__main__":
    unittest.main()
