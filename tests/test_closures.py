import random
import unittest

from dustwalk.areas import Box, Everywhere
from dustwalk.cells import DOCK
from dustwalk.charts import Chart
from dustwalk.closures import closure, felt_from, round_trip
from dustwalk.errors import NoDock
from dustwalk.floors import Floor
from dustwalk.watchman import lets
from helpers import (HUGE, NO_DOCK_AREAS, PLAIN, chart_of, drawn_chart, drawn_dock_area, drawn_floor, felt_on, near,
                     plain_floor, slow_closure, slow_homes, slow_outs, slow_sides_let, told, told_floor, walked)

ALL = Everywhere()
STORES = (0, 1, 2, 5, 9, 20, HUGE)


class TestFeltFrom(unittest.TestCase):
    """[20]"""

    def setUp(self):
        self.floor = Floor([[(1, 0), (2, 1), None], [None, (3, 0), (4, -1)]], (0, 1))

    def test_of_no_cells(self):
        self.assertEqual(told(felt_from(self.floor, [])), told(Chart()))

    def test_in_any_order_and_one_twice(self):
        cells = self.floor.cells()
        wanted = told(felt_on(self.floor, cells))
        for order in (cells, cells[::-1], cells[2:] + cells[:2], cells + cells, [cells[1]] + cells):
            handed = list(order)
            chart = felt_from(self.floor, handed)
            self.assertIsInstance(chart, Chart)
            self.assertEqual(told(chart), wanted)
            self.assertEqual(handed, order)

    def test_of_some_cells(self):
        chart = felt_from(self.floor, [(1, 0)])
        self.assertEqual(chart.stood(), [(1, 0)])
        self.assertEqual(chart.known(), [(0, 0), (1, -1), (1, 0), (1, 1), (2, 0)])
        self.assertEqual(chart.ground((1, 1)), (4, -1))

    def test_a_new_chart_each_time(self):
        cells = [DOCK]
        before = told_floor(self.floor)
        first = felt_from(self.floor, cells)
        wanted = told(first)
        first.note((1, 0), self.floor.felt((1, 0)))
        self.assertEqual(told(felt_from(self.floor, cells)), wanted)
        second = felt_from(self.floor, cells)
        cells.append((1, 0))
        self.assertEqual(told(second), wanted)
        self.assertEqual(told_floor(self.floor), before)


class TestClosure(unittest.TestCase):
    """[20]"""

    def check(self, floor, area, full, chart=None):
        before = (told_floor(floor), None if chart is None else told(chart))
        wanted = slow_closure(floor, [(full, area)], chart)
        answer = closure(floor, area, full) if chart is None else closure(floor, area, full, chart)
        self.assertIsInstance(answer, list)
        self.assertEqual(answer, wanted)
        self.assertEqual((told_floor(floor), None if chart is None else told(chart)), before)
        return answer

    def test_a_row(self):
        floor = plain_floor(1, 7, (0, 3))
        for full in range(9):
            reach = min(full // 2, 3)
            self.assertEqual(closure(floor, ALL, full), [(0, k) for k in range(-reach, reach + 1)])

    def test_the_dock_alone(self):
        for floor in (plain_floor(1, 1, (0, 0)), plain_floor(3, 3, (1, 1))):
            self.assertEqual(closure(floor, ALL, 0), [DOCK])
            self.assertEqual(closure(floor, ALL, 1), [DOCK])
            self.assertEqual(closure(floor, Box(0, 0, 0, 0), HUGE), [DOCK])

    def test_cells_of_another_height_than_the_docks(self):
        # From a lower one no way leads up to the dock, to a higher one none leads.
        floor = Floor([[(1, 1), (1, 0), (1, 1)], [(1, 2), (1, 1), (1, 1)]], (0, 0))
        self.assertEqual(closure(floor, ALL, HUGE), [DOCK])
        self.assertEqual(closure(floor, ALL, HUGE, felt_on(floor, floor.cells())), [DOCK])
        ring = Floor([[(1, 5), (1, 4)], [(1, 5), (1, 5)]], (0, 0))
        self.assertEqual(closure(ring, ALL, 9), [(0, 0), (1, 0), (1, 1)])
        self.assertEqual(closure(ring, ALL, 9, felt_on(ring, ring.cells())), [(0, 0), (1, 0), (1, 1)])

    def test_round_a_dear_cell(self):
        floor = Floor([[(1, 0), (9, 0), (1, 0)], [(1, 0), (1, 0), (1, 0)]], (0, 0))
        self.assertEqual(closure(floor, ALL, 7), [(0, 0), (1, 0), (1, 1), (1, 2)])
        self.assertEqual(closure(floor, ALL, 8), [(0, 0), (0, 2), (1, 0), (1, 1), (1, 2)])
        self.assertEqual(closure(floor, ALL, 9), [(0, 0), (0, 2), (1, 0), (1, 1), (1, 2)])
        self.assertEqual(closure(floor, ALL, 10), floor.cells())
        self.assertEqual(closure(floor, Box(0, 0, 0, 2), 19), [(0, 0), (0, 1)])
        self.assertEqual(closure(floor, Box(0, 0, 0, 2), 20), [(0, 0), (0, 1), (0, 2)])

    def test_a_chart_known_ahead_of_the_way_round(self):
        floor = Floor([[(1, 0), (8, 0), (1, 0)], [(1, 0), (1, 0), (1, 0)]], (0, 0))
        ahead = felt_on(floor, [(1, 2)])
        for full in range(0, 22):
            self.check(floor, ALL, full)
            self.check(floor, ALL, full, ahead)
            self.check(floor, Box(0, 0, 0, 2), full, ahead)

    def test_drawn_floors(self):
        draw = random.Random(41)
        for turn in range(200):
            costs = draw.choice(((1,), (1, 2, 5), (1, HUGE // 100)))
            heights = draw.choice(((0,), (0, 0, 0, 1), (0, 0, 1, 1, -1)))
            floor = drawn_floor(draw, draw.randint(1, 5), draw.randint(1, 5), 0.2, costs, heights)
            area = draw.choice((ALL, drawn_dock_area(draw)))
            full = draw.choice(STORES)
            without = self.check(floor, area, full)
            known = self.check(floor, area, full, drawn_chart(draw, floor, draw.choice((0.2, 0.6, 1))))
            self.assertLessEqual(set(without), set(known))

    def test_nine_rows_of_nine(self):
        draw = random.Random(42)
        for full in (4, 11, 30, HUGE):
            floor = drawn_floor(draw, 9, 9, 0.15, (1, 2, 3), (0, 0, 0, 0, 0, 1))
            self.check(floor, ALL, full)
            self.check(floor, drawn_dock_area(draw), full, drawn_chart(draw, floor, 0.3))

    def test_a_new_chart_where_it_is_left_out(self):
        floor = drawn_floor(random.Random(43), 5, 5)
        for full in STORES:
            wanted = closure(floor, ALL, full)
            self.assertEqual(closure(floor, ALL, full, Chart()), wanted)
            self.assertEqual(closure(floor, ALL, full, None), wanted)

    def test_a_new_list_each_time(self):
        floor = plain_floor(2, 2, (0, 0))
        first = closure(floor, ALL, 9)
        first.append((7, 7))
        first.clear()
        self.assertEqual(closure(floor, ALL, 9), floor.cells())
        self.assertIsNot(closure(floor, ALL, 9), closure(floor, ALL, 9))

    def test_no_dock(self):
        floor = plain_floor(3, 3, (1, 1))
        for area in NO_DOCK_AREAS:
            for chart in (None, Chart(), felt_on(floor, floor.cells())):
                with self.assertRaises(NoDock):
                    closure(floor, area, 9, chart)

    def test_a_floor_of_2500_cells(self):
        floor = plain_floor(50, 50, (20, 30))
        self.assertEqual(closure(floor, ALL, 200), floor.cells())
        self.assertEqual(closure(floor, ALL, 20), [c for c in floor.cells() if abs(c[0]) + abs(c[1]) <= 10])
        row = plain_floor(1, 2500, (0, 0))
        self.assertEqual(closure(row, ALL, HUGE), row.cells())


class TestAllPicking(unittest.TestCase):
    """[21], what follows for a machine under the watchman"""

    def test_drawn_picking_stays_on_the_closure(self):
        draw = random.Random(44)
        for turn in range(80):
            floor = drawn_floor(draw, draw.randint(1, 5), draw.randint(1, 5), 0.15, (1, 2), (0, 0, 0, 1))
            area, full = drawn_dock_area(draw), draw.choice((2, 5, 9, 20))
            chart = drawn_chart(draw, floor, draw.choice((0, 0.4)))
            cells = closure(floor, area, full, chart)
            place, left = DOCK, full
            for step in range(40):
                self.assertIn(place, cells)
                chart.note(place, floor.felt(place))
                sides = slow_sides_let(chart, area, place, left)
                if sides:
                    place = near(place, draw.choice(sides))
                    left = full if place == DOCK else left - floor.ground(place)[0]

    def test_each_cell_of_it_is_reached_by_steps_let_by(self):
        draw = random.Random(45)
        for turn in range(40):
            floor = drawn_floor(draw, draw.randint(1, 4), draw.randint(1, 4), 0.15, (1, 2), (0, 0, 0, 1))
            area, full = drawn_dock_area(draw), draw.choice((2, 5, 9, 20))
            cells, stood, chart = closure(floor, area, full), {DOCK}, felt_on(floor, [DOCK])
            going = True
            while going:
                going = False
                for cell in cells:
                    sides = round_trip(chart, area, full, cell)
                    if cell not in stood and sides is not None:
                        going = True
                        self.walk(floor, chart, area, full, sides, stood)
            self.assertEqual(sorted(stood), cells)

    def walk(self, floor, chart, area, full, sides, stood):
        place, left = DOCK, full
        for side in sides:
            self.assertIs(lets(chart, area, place, left, side), True)
            place = near(place, side)
            left = full if place == DOCK else left - floor.ground(place)[0]
            chart.note(place, floor.felt(place))
            stood.add(place)
        self.assertEqual(place, DOCK)


class TestRounds(unittest.TestCase):
    """[21]"""

    def check(self, chart, area, full, cell):
        before = told(chart)
        out, home = slow_outs(chart, area), slow_homes(chart, area)
        sides = round_trip(chart, area, full, cell)
        if cell in out and cell in home and out[cell] + home[cell] <= full:
            self.assertIsInstance(sides, str)
            end, cost = walked(chart, area, DOCK, sides)
            self.assertEqual(end, DOCK)
            self.assertLessEqual(cost, full)
            places = [DOCK]
            for side in sides:
                places.append(near(places[-1], side))
            self.assertIn(cell, places)
        else:
            self.assertIsNone(sides)
        self.assertEqual(told(chart), before)
        self.assertEqual(round_trip(chart, area, full, cell), sides)

    def test_just_enough_and_one_less(self):
        chart = chart_of((DOCK, [(3, 0), None, (4, 0), None, None]))
        self.assertEqual(round_trip(chart, ALL, 7, (0, 1)), "ew")
        self.assertIsNone(round_trip(chart, ALL, 6, (0, 1)))

    def test_at_the_dock(self):
        chart = chart_of((DOCK, [PLAIN] * 5))
        self.assertEqual(walked(chart, ALL, DOCK, round_trip(chart, ALL, 0, DOCK)), (DOCK, 0))
        self.assertIsNone(round_trip(Chart(), ALL, HUGE, DOCK))
        self.assertIsNone(round_trip(chart_of(((0, 1), [PLAIN] * 4 + [None])), ALL, HUGE, DOCK))

    def test_none_where_a_way_lacks(self):
        chart = chart_of((DOCK, [(1, 0), (1, 1), None, (1, -1), None]))
        for cell in ((-1, 0), (1, 0), (0, 1), (5, 5), (HUGE, HUGE)):
            self.assertIsNone(round_trip(chart, ALL, HUGE, cell))
        plain = chart_of((DOCK, [PLAIN] * 5))
        self.assertEqual(round_trip(plain, ALL, 2, (0, 1)), "ew")
        self.assertIsNone(round_trip(plain, Box(0, 0, 0, 0), 2, (0, 1)))

    def test_round_a_wall_and_a_higher_cell(self):
        floor = Floor([[(1, 2), (1, 2), (1, 2)], [(1, 2), None, (1, 2)], [(1, 2), (1, 2), (1, 3)]], (0, 0))
        chart = felt_on(floor, floor.cells())
        for cell in floor.cells():
            for full in range(0, 12):
                self.check(chart, ALL, full, cell)

    def test_drawn_charts(self):
        draw = random.Random(46)
        for turn in range(150):
            floor = drawn_floor(draw, draw.randint(1, 5), draw.randint(1, 5), 0.2, (1, 2, 5), (0, 0, 0, 1))
            chart, area = drawn_chart(draw, floor, 0.7), drawn_dock_area(draw)
            for cell in chart.known() + [(9, 9)]:
                self.check(chart, area, draw.choice(STORES), cell)

    def test_no_dock(self):
        floor = plain_floor(3, 3, (1, 1))
        for area in NO_DOCK_AREAS:
            for chart in (Chart(), felt_on(floor, floor.cells())):
                for cell in (DOCK, (1, 1)):
                    with self.assertRaises(NoDock):
                        round_trip(chart, area, 9, cell)


if __name__ == "__main__":
    unittest.main()
