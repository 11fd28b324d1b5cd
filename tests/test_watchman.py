import random
import unittest

from dustwalk.areas import Box, Everywhere
from dustwalk.cells import DOCK, SIDES
from dustwalk.charts import Chart
from dustwalk.distances import homes, known_steps, way_home
from dustwalk.errors import TooMany
from dustwalk.floors import Floor
from dustwalk.watchman import lets, shut_floor, sides_let
from helpers import (HUGE, PLAIN, chart_of, drawn_chart, drawn_dock_area, drawn_floor, felt_on, near, plain_floor,
                     slow_homes, slow_sides_let, told, told_floor)

ALL = Everywhere()


def full_homes(floor, area):
    """What a way home costs on a floor of which all is known."""
    return slow_homes(felt_on(floor, floor.cells()), area)


class TestStepsLetBy(unittest.TestCase):
    """[17]"""

    def test_each_side_with_just_enough_and_one_less(self):
        # From the dock to each side at another cost; home again for 2.
        costs = {"n": 3, "e": 4, "s": 5, "w": 6}
        chart = chart_of((DOCK, [(2, 0)] + [(costs[side], 0) for side in SIDES]))
        for side in SIDES:
            self.assertIs(lets(chart, ALL, DOCK, costs[side] + 2, side), True)
            self.assertIs(lets(chart, ALL, DOCK, costs[side] + 1, side), False)
        for left in range(12):
            self.assertEqual(sides_let(chart, ALL, DOCK, left), [side for side in SIDES if costs[side] + 2 <= left])

    def test_the_order_of_the_sides(self):
        chart = chart_of((DOCK, [PLAIN] * 5))
        told_sides = sides_let(chart, ALL, DOCK, 2)
        self.assertEqual(told_sides, ["n", "e", "s", "w"])
        self.assertIsInstance(told_sides, list)

    def test_walls_ups_downs_and_the_unknown(self):
        chart = chart_of((DOCK, [(1, 0), (1, 1), (1, -1), (1, 0), None]))
        self.assertEqual(sides_let(chart, ALL, DOCK, HUGE), ["s"])
        self.assertIs(lets(chart, ALL, DOCK, HUGE, "n"), False)
        self.assertIs(lets(chart, ALL, DOCK, HUGE, "e"), False)
        self.assertIs(lets(chart, ALL, DOCK, HUGE, "w"), False)
        self.assertEqual(sides_let(chart, ALL, (-1, 0), 1), ["s"])
        self.assertEqual(sides_let(chart, ALL, (-1, 0), 0), [])
        for place in ((0, -1), (1, 1), (0, 1), (7, 7)):
            self.assertEqual(sides_let(chart, ALL, place, HUGE), [])
            for side in SIDES:
                self.assertIs(lets(chart, ALL, place, HUGE, side), False)

    def test_down_where_a_way_home_goes_round(self):
        # e leads down from the dock; level cells lead round from there to a cell beside the dock, which is higher.
        floor = Floor([[(1, 1), (1, 0)], [(1, 0), (1, 0)]], (0, 0))
        chart = felt_on(floor, floor.cells())
        self.assertEqual(sides_let(chart, ALL, DOCK, HUGE), [])
        floor = Floor([[(1, 1), (1, 1)], [(1, 1), (1, 0)]], (0, 0))
        chart = felt_on(floor, floor.cells())
        self.assertEqual(sides_let(chart, ALL, DOCK, 2), ["e", "s"])
        self.assertEqual(sides_let(chart, ALL, (0, 1), 9), ["w"])

    def test_home_within_the_area_alone(self):
        floor = plain_floor(2, 3, (0, 0))
        chart = felt_on(floor, floor.cells())
        self.assertEqual(sides_let(chart, Box(0, 0, 0, 2), DOCK, 9), ["e"])
        self.assertEqual(sides_let(chart, Box(0, 0, 0, 0), DOCK, 9), [])
        self.assertEqual(sides_let(chart, Box(0, 0, 0, 2), (1, 0), 9), [])
        self.assertEqual(sides_let(chart, ALL, (0, 2), 2), ["w"])
        self.assertEqual(sides_let(chart, ALL, (0, 2), 1), [])
        self.assertEqual(sides_let(chart, ALL, (0, 2), 4), ["s", "w"])
        self.assertEqual(sides_let(chart, ALL, (0, 2), 3), ["w"])

    def test_the_step_home_with_just_enough(self):
        chart = chart_of((DOCK, [(3, 0), None, (1, 0), None, None]))
        self.assertIs(lets(chart, ALL, (0, 1), 3, "w"), True)
        self.assertIs(lets(chart, ALL, (0, 1), 2, "w"), False)

    def test_charts_that_do_not_know_the_dock(self):
        wall = chart_of(((0, 1), [PLAIN, PLAIN, PLAIN, PLAIN, None]))
        for chart in (Chart(), wall):
            for place in (DOCK, (0, 1)):
                self.assertEqual(sides_let(chart, ALL, place, HUGE), [])

    def test_large_costs(self):
        chart = chart_of((DOCK, [(HUGE, 0), None, (HUGE, 0), None, None]))
        self.assertIs(lets(chart, ALL, DOCK, 2 * HUGE, "e"), True)
        self.assertIs(lets(chart, ALL, DOCK, 2 * HUGE - 1, "e"), False)

    def test_drawn_charts(self):
        draw = random.Random(31)
        for turn in range(150):
            chart = drawn_chart(draw, drawn_floor(draw, draw.randint(1, 5), draw.randint(1, 5)), 0.7)
            area = drawn_dock_area(draw)
            before = told(chart)
            for place in chart.known():
                left = draw.randrange(20)
                wanted = slow_sides_let(chart, area, place, left)
                self.assertEqual(sides_let(chart, area, place, left), wanted)
                for side in SIDES:
                    self.assertIs(lets(chart, area, place, left, side), side in wanted)
            self.assertEqual(told(chart), before)

    def test_the_same_each_time_and_behind_further_noting(self):
        floor = plain_floor(1, 3, (0, 0))
        chart = felt_on(floor, [DOCK])
        first = sides_let(chart, ALL, (0, 1), 5)
        first.append("n")
        first.clear()
        self.assertEqual(sides_let(chart, ALL, (0, 1), 5), ["w"])
        chart.note((0, 1), floor.felt((0, 1)))
        self.assertEqual(sides_let(chart, ALL, (0, 1), 5), ["e", "w"])
        self.assertIsNot(sides_let(chart, ALL, (0, 1), 5), sides_let(chart, ALL, (0, 1), 5))


class TestAlwaysHome(unittest.TestCase):
    """[18]"""

    def test_drawn_steps_that_are_let_by(self):
        draw = random.Random(32)
        for turn in range(60):
            floor = drawn_floor(draw, draw.randint(1, 6), draw.randint(1, 6), 0.15, (1, 2, 3), (0, 0, 0, 0, 1, -1))
            area, full = drawn_dock_area(draw), draw.choice((0, 1, 2, 6, 14, 40))
            self.roam(draw, floor, area, full, 40)

    def roam(self, draw, floor, area, full, turns):
        chart, place, left = Chart(), DOCK, full
        for turn in range(turns):
            chart.note(place, floor.felt(place))
            costs = homes(chart, area)
            self.assertGreaterEqual(left, costs[place])
            if place != DOCK:
                self.assertGreater(left, 0)
                self.assertIn(way_home(chart, area, place)[0], sides_let(chart, area, place, left))
            sides = sides_let(chart, area, place, left)
            if sides:
                place = near(place, draw.choice(sides))
                left = full if place == DOCK else left - floor.ground(place)[0]
        chart.note(place, floor.felt(place))
        for side in way_home(chart, area, place):
            self.assertIs(lets(chart, area, place, left, side), True)
            place = near(place, side)
            left -= floor.ground(place)[0]
        self.assertEqual(place, DOCK)
        self.assertGreaterEqual(left, 0)


class TestShutFloor(unittest.TestCase):
    """[19]"""

    def test_rows_and_dock(self):
        chart = chart_of((DOCK, [(1, 0), (2, 1), None, (3, -1), (4, 0)]))
        floor = shut_floor(chart)
        self.assertIsInstance(floor, Floor)
        self.assertEqual(floor.rows(), [[None, (2, 1)], [(4, 0), (1, 0)], [None, (3, -1)]])
        self.assertEqual(floor.dock(), (1, 1))

    def test_the_dock_alone(self):
        floor = shut_floor(chart_of((DOCK, [(7, -7), None, None, None, None])))
        self.assertEqual(told_floor(floor), ([[(7, -7)]], (0, 0), [DOCK]))

    def test_known_walls_beyond_the_grounds_make_no_rows(self):
        chart = chart_of((DOCK, [PLAIN, None, PLAIN, None, None]))
        self.assertEqual(told_floor(shut_floor(chart)), ([[PLAIN, PLAIN]], (0, 0), [(0, 0), (0, 1)]))

    def test_the_dock_known_and_not_stood_on(self):
        chart = chart_of(((0, 1), [(5, 0), None, None, (6, 0), PLAIN]))
        self.assertEqual(told_floor(shut_floor(chart)), ([[PLAIN, (5, 0)], [None, (6, 0)]], (0, 0),
                                                         [(0, 0), (0, 1), (1, 1)]))

    def test_parts_that_hang_by_nothing(self):
        chart = chart_of((DOCK, [PLAIN, None, None, None, None]), ((3, -4), [(2, 0), None, None, None, None]))
        floor = shut_floor(chart)
        self.assertEqual(floor.dock(), (0, 4))
        self.assertEqual(floor.cells(), [(0, 0), (3, -4)])
        self.assertEqual((len(floor.rows()), len(floor.rows()[0])), (4, 5))

    def test_drawn_charts(self):
        draw = random.Random(33)
        for turn in range(150):
            floor = drawn_floor(draw, draw.randint(1, 6), draw.randint(1, 6))
            chart = drawn_chart(draw, floor, draw.random())
            chart.note(DOCK, floor.felt(DOCK))
            before = told(chart)
            shut = shut_floor(chart)
            cells = chart.open_cells()
            self.assertEqual(shut.cells(), cells)
            for cell in cells:
                self.assertEqual(shut.ground(cell), chart.ground(cell))
            for cell in chart.stood():
                self.assertEqual(shut.felt(cell), floor.felt(cell))
                chart.note(cell, shut.felt(cell))
            rows, columns = [cell[0] for cell in cells], [cell[1] for cell in cells]
            self.assertEqual(shut.dock(), (-min(rows), -min(columns)))
            self.assertEqual(len(shut.rows()), max(rows) - min(rows) + 1)
            self.assertEqual(len(shut.rows()[0]), max(columns) - min(columns) + 1)
            self.assertEqual(told(chart), before)

    def test_2500_cells_and_more(self):
        lone = [PLAIN, None, None, None, None]
        for cell, count in (((49, 49), 2500), ((0, 2499), 2500), ((-2499, 0), 2500), ((-24, -99), 2500)):
            floor = shut_floor(chart_of((DOCK, lone), (cell, lone)))
            self.assertEqual(len(floor.rows()) * len(floor.rows()[0]), count)
            self.assertEqual(floor.cells(), sorted([DOCK, cell]))
        for cell in ((50, 49), (49, 50), (0, 2500), (-2500, 0), (-60, -40), (HUGE, 0), (0, -HUGE), (HUGE, HUGE)):
            chart = chart_of((DOCK, lone), (cell, lone))
            before = told(chart)
            with self.assertRaises(TooMany):
                shut_floor(chart)
            self.assertEqual(told(chart), before)

    def test_asked_again_behind_further_noting(self):
        world = plain_floor(1, 4, (0, 1))
        chart = felt_on(world, [DOCK])
        first = shut_floor(chart)
        self.assertEqual(told_floor(first), told_floor(shut_floor(chart)))
        chart.note((0, 1), world.felt((0, 1)))
        self.assertEqual(first.rows(), [[PLAIN] * 3])
        self.assertEqual(shut_floor(chart).rows(), [[PLAIN] * 4])

    def test_a_forbidden_step_leads_to_no_way_home_there(self):
        draw = random.Random(34)
        forbidden = 0
        for turn in range(150):
            floor = drawn_floor(draw, draw.randint(1, 5), draw.randint(1, 5), 0.2, (1, 2), (0, 0, 0, 1))
            chart = drawn_chart(draw, floor, 0.7)
            chart.note(DOCK, floor.felt(DOCK))
            area = drawn_dock_area(draw)
            costs = full_homes(shut_floor(chart), area)
            for place in chart.open_cells():
                left = draw.randrange(9)
                sides = sides_let(chart, area, place, left)
                for side, end, cost in known_steps(chart, area, place):
                    if side not in sides:
                        forbidden += 1
                        self.assertTrue(end not in costs or costs[end] > left - cost)
        self.assertGreater(forbidden, 200)


if __name__ == "__main__":
    unittest.main()
