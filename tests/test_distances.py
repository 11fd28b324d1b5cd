import random
import unittest

from dustwalk.areas import Box, Either, Everywhere, Outside
from dustwalk.cells import DOCK, SIDES
from dustwalk.charts import Chart
from dustwalk.distances import homes, known_steps, outs, way_home, way_out
from dustwalk.floors import Floor
from dustwalk.ways import Ways
from helpers import (HUGE, PLAIN, all_steps, chart_of, drawn_chart, drawn_dock_area, drawn_floor, felt_on, five,
                     plain_floor, slow_homes, slow_outs, told, walked)

ALL = Everywhere()


def draws(seed, turns, size=5):
    """Drawn charts with drawn areas, of small floors."""
    draw = random.Random(seed)
    for turn in range(turns):
        costs = draw.choice(((1,), (1, 2, 5), (1, 10 ** 40, HUGE), tuple(range(1, 30))))
        heights = draw.choice(((0,), (0, 0, 0, 1), (-2, -1, 0, 1, 2), (HUGE, -HUGE)))
        floor = drawn_floor(draw, draw.randint(1, size), draw.randint(1, size), 0.2, costs, heights)
        yield draw, drawn_chart(draw, floor, draw.choice((0.3, 0.7, 1))), drawn_dock_area(draw)


class TestKnownSteps(unittest.TestCase):
    """[12]"""

    def setUp(self):
        # The cost of each cell is another; n is up, s is down, e is level, w is a wall.
        self.felt = [(7, 0), (2, 1), (3, 0), (4, -1), None]
        self.chart = chart_of((DOCK, self.felt))

    def test_from_a_cell_stood_on(self):
        self.assertEqual(known_steps(self.chart, ALL, DOCK), [("e", (0, 1), 3), ("s", (1, 0), 4)])

    def test_from_cells_not_stood_on(self):
        self.assertEqual(known_steps(self.chart, ALL, (-1, 0)), [("s", DOCK, 7)])
        self.assertEqual(known_steps(self.chart, ALL, (0, 1)), [("w", DOCK, 7)])
        self.assertEqual(known_steps(self.chart, ALL, (1, 0)), [])

    def test_from_walls_unknown_and_far_cells(self):
        for cell in ((0, -1), (1, 1), (-1, -1), (0, 2), (HUGE, -HUGE)):
            self.assertEqual(known_steps(self.chart, ALL, cell), [])
        self.assertEqual(known_steps(Chart(), ALL, DOCK), [])

    def test_the_order_of_the_sides_and_the_kinds(self):
        chart = chart_of((DOCK, [(9, 5), (1, 5), (2, 4), (3, 5), (4, -5)]))
        steps = known_steps(chart, ALL, DOCK)
        self.assertEqual(steps, [("n", (-1, 0), 1), ("e", (0, 1), 2), ("s", (1, 0), 3), ("w", (0, -1), 4)])
        self.assertIsInstance(steps, list)
        for step in steps:
            self.assertIsInstance(step, tuple)

    def test_up_level_and_down(self):
        for one in range(-2, 3):
            for other in range(-2, 3):
                chart = chart_of((DOCK, [(1, one), None, (6, other), None, None]))
                wanted = [("e", (0, 1), 6)] if other <= one else []
                self.assertEqual(known_steps(chart, ALL, DOCK), wanted)
                back = [("w", DOCK, 1)] if one <= other else []
                self.assertEqual(known_steps(chart, ALL, (0, 1)), back)

    def test_the_cost_is_the_second_cells(self):
        for cost in (1, 2, 10 ** 30, HUGE):
            chart = chart_of((DOCK, [(5, 0), None, (cost, 0), None, None]))
            self.assertEqual(known_steps(chart, ALL, DOCK), [("e", (0, 1), cost)])
            self.assertEqual(known_steps(chart, ALL, (0, 1)), [("w", DOCK, 5)])

    def test_across_an_areas_edge(self):
        floor = plain_floor(5, 5, (2, 2))
        chart = felt_on(floor, floor.cells())
        area = Box(-1, -1, 1, 1)
        self.assertEqual([step[0] for step in known_steps(chart, area, DOCK)], list("nesw"))
        self.assertEqual([step[0] for step in known_steps(chart, area, (-1, -1))], list("es"))
        self.assertEqual([step[0] for step in known_steps(chart, area, (1, 0))], list("new"))
        for beyond in ((-2, 0), (0, 2), (2, 2)):
            self.assertEqual(known_steps(chart, area, beyond), [])
        self.assertEqual([step[0] for step in known_steps(chart, ALL, (-2, -2))], list("es"))

    def test_between_two_cells_that_were_not_stood_on(self):
        floor = plain_floor(2, 2, (0, 0))
        chart = felt_on(floor, [(0, 0), (1, 1)])
        self.assertEqual(known_steps(chart, ALL, (0, 1)), [("s", (1, 1), 1), ("w", (0, 0), 1)])
        chart = chart_of(((0, 1), [PLAIN] * 5), ((1, 2), [PLAIN] * 5))
        self.assertEqual([step[0] for step in known_steps(chart, ALL, (1, 1))], ["n", "e"])
        self.assertEqual([step[0] for step in known_steps(chart, ALL, (0, 0))], ["e"])

    def test_drawn_charts(self):
        for draw, chart, area in draws(12, 60):
            steps = [(cell,) + step for cell in chart.known() for step in known_steps(chart, area, cell)]
            self.assertEqual(steps, all_steps(chart, area))


class TestLeastCosts(unittest.TestCase):
    """[13]"""

    def check(self, chart, area):
        before = told(chart)
        self.assertEqual(outs(chart, area), slow_outs(chart, area))
        self.assertEqual(homes(chart, area), slow_homes(chart, area))
        self.assertEqual(told(chart), before)

    def test_a_small_floor(self):
        floor = Floor([[(5, 0), (2, 0), (3, 1)], [(1, 0), None, (1, 0)]], (0, 0))
        chart = felt_on(floor, floor.cells())
        self.assertEqual(outs(chart, ALL), {(0, 0): 0, (0, 1): 2, (1, 0): 1})
        self.assertEqual(homes(chart, ALL), {(0, 0): 0, (0, 1): 5, (0, 2): 7, (1, 0): 5})

    def test_the_dearer_and_longer_way(self):
        floor = Floor([[(1, 0), (9, 0), (1, 0)], [(1, 0), (1, 0), (1, 0)]], (0, 0))
        chart = felt_on(floor, floor.cells())
        self.assertEqual(outs(chart, ALL)[(0, 2)], 4)
        self.assertEqual(homes(chart, ALL)[(0, 2)], 4)
        self.assertEqual(outs(chart, Box(0, 0, 0, 2))[(0, 2)], 10)
        self.assertEqual(homes(chart, Box(0, 0, 0, 2))[(0, 2)], 10)

    def test_only_known_cells_are_walked(self):
        floor = plain_floor(1, 6, (0, 0))
        self.assertEqual(outs(felt_on(floor, [DOCK]), ALL), {(0, 0): 0, (0, 1): 1})
        self.assertEqual(outs(felt_on(floor, [DOCK, (0, 3)]), ALL), {(0, k): k for k in range(5)})
        self.assertEqual(outs(felt_on(floor, [DOCK, (0, 4)]), ALL), {(0, 0): 0, (0, 1): 1})
        self.assertEqual(homes(felt_on(floor, [DOCK, (0, 4)]), ALL), {(0, 0): 0, (0, 1): 1})

    def test_a_chart_that_does_not_know_the_dock(self):
        wall = chart_of(((0, 1), [PLAIN, PLAIN, PLAIN, PLAIN, None]))
        self.assertIsNone(wall.ground(DOCK))
        for chart in (Chart(), wall, chart_of(((5, 5), [PLAIN] * 5))):
            self.assertEqual(outs(chart, ALL), {})
            self.assertEqual(homes(chart, ALL), {})

    def test_the_dock_known_and_not_stood_on(self):
        chart = chart_of(((0, 1), [PLAIN, None, None, None, (4, 0)]))
        self.assertEqual(outs(chart, ALL), {DOCK: 0, (0, 1): 1})
        self.assertEqual(homes(chart, ALL), {DOCK: 0, (0, 1): 4})

    def test_drawn_charts(self):
        for draw, chart, area in draws(13, 250):
            self.check(chart, area)
            self.check(chart, ALL)

    def test_fourteen_rows_of_fourteen(self):
        draw = random.Random(14)
        for costs in ((1,), (1, 2, 5), tuple(range(1, 100)), (HUGE, HUGE - 1, 1)):
            floor = drawn_floor(draw, 14, 14, 0.15, costs, (0, 0, 0, 0, 0, 1))
            self.check(felt_on(floor, floor.cells()), ALL)
            self.check(drawn_chart(draw, floor, 0.6), Either(Box(-4, -9, 9, 3), Outside(Box(-2, -2, 5, 5))))

    def test_one_row_of_1200(self):
        draw = random.Random(15)
        row = [(draw.randint(1, 9), -abs(j - 700)) for j in range(1200)]
        chart = felt_on(Floor([row], (0, 700)), [(0, j - 700) for j in range(1200)])
        wanted = {(0, j - 700): sum(cost for cost, height in (row[701:j + 1] if j > 700 else row[j:700]))
                  for j in range(1200)}
        self.assertEqual(outs(chart, ALL), wanted)
        self.assertEqual(homes(chart, ALL), {DOCK: 0})
        level = [(cost, 0) for cost, height in row]
        chart = felt_on(Floor([level], (0, 0)), [(0, j) for j in range(1200)])
        self.assertEqual(outs(chart, ALL), {(0, j): sum(c for c, h in level[1:j + 1]) for j in range(1200)})
        self.assertEqual(homes(chart, ALL), {(0, j): sum(c for c, h in level[:j]) for j in range(1200)})
        self.assertEqual(way_out(chart, ALL, (0, 1199)), "e" * 1199)
        self.assertEqual(way_home(chart, ALL, (0, 1199)), "w" * 1199)

    def test_the_same_each_time_also_when_the_asker_changes_a_dict(self):
        floor = plain_floor(3, 3, (1, 1))
        chart = felt_on(floor, floor.cells())
        for ask in (outs, homes):
            first = ask(chart, ALL)
            self.assertIsInstance(first, dict)
            wanted = dict(first)
            first[DOCK] = 77
            first.clear()
            first[(9, 9)] = 1
            self.assertEqual(ask(chart, ALL), wanted)
            self.assertIsNot(ask(chart, ALL), ask(chart, ALL))

    def test_behind_further_noting(self):
        floor = plain_floor(1, 4, (0, 0))
        chart = felt_on(floor, [DOCK])
        first, back = outs(chart, ALL), homes(chart, ALL)
        chart.note((0, 1), floor.felt((0, 1)))
        self.assertEqual((first, back), ({DOCK: 0, (0, 1): 1}, {DOCK: 0, (0, 1): 1}))
        self.assertEqual(outs(chart, ALL), {(0, k): k for k in range(3)})
        self.assertEqual(homes(chart, ALL), {(0, k): k for k in range(3)})


class TestLearnedBitByBit(unittest.TestCase):
    def test_costs_stay_up_to_date(self):
        draw = random.Random(16)
        for turn in range(60):
            floor = drawn_floor(draw, 6, 6, 0.15, draw.choice(((1,), (1, 2, 50))))
            area = drawn_dock_area(draw)
            ways, chart = Ways(area), Chart()
            order = floor.cells()
            draw.shuffle(order)
            for cell in order:
                chart.note(cell, floor.felt(cell))
                ways.learn(chart, five(cell))
            self.assertEqual(ways.outs, slow_outs(chart, area))
            self.assertEqual(ways.homes, slow_homes(chart, area))

    def test_at_each_bit(self):
        draw = random.Random(17)
        for turn in range(12):
            floor = drawn_floor(draw, 4, 4, 0.1)
            ways, chart = Ways(ALL), Chart()
            order = floor.cells()
            draw.shuffle(order)
            for cell in order:
                chart.note(cell, floor.felt(cell))
                ways.learn(chart, five(cell))
                self.assertEqual(ways.outs, slow_outs(chart, ALL))
                self.assertEqual(ways.homes, slow_homes(chart, ALL))


class TestWays(unittest.TestCase):
    """[14]"""

    def check(self, chart, area):
        before = told(chart)
        out, back = slow_outs(chart, area), slow_homes(chart, area)
        for cell in chart.known() + [(40, 40)]:
            way = way_out(chart, area, cell)
            if cell in out:
                self.assertEqual(walked(chart, area, DOCK, way), (cell, out[cell]))
            else:
                self.assertIsNone(way)
            way = way_home(chart, area, cell)
            if cell in back:
                self.assertEqual(walked(chart, area, cell, way), (DOCK, back[cell]))
            else:
                self.assertIsNone(way)
        self.assertEqual(told(chart), before)

    def test_drawn_charts(self):
        for draw, chart, area in draws(18, 120):
            self.check(chart, area)

    def test_each_side(self):
        chart = chart_of((DOCK, [PLAIN] * 5))
        for side, back, cell in zip(SIDES, "swne", five(DOCK)[1:]):
            self.assertEqual(way_out(chart, ALL, cell), side)
            self.assertEqual(way_home(chart, ALL, cell), back)

    def test_at_the_dock(self):
        chart = chart_of((DOCK, [PLAIN] * 5))
        self.assertEqual(way_out(chart, ALL, DOCK), "")
        self.assertEqual(way_home(chart, ALL, DOCK), "")
        known = chart_of(((0, 1), [PLAIN] * 5))
        self.assertEqual(way_out(known, ALL, DOCK), "")
        self.assertEqual(way_home(known, Box(0, 0, 0, 0), DOCK), "")

    def test_where_the_dock_is_not_known(self):
        wall = chart_of(((0, 1), [PLAIN, PLAIN, PLAIN, PLAIN, None]))
        for chart in (Chart(), wall, chart_of(((5, 5), [PLAIN] * 5))):
            for cell in (DOCK, (0, 1), (5, 5)):
                self.assertIsNone(way_out(chart, ALL, cell))
                self.assertIsNone(way_home(chart, ALL, cell))

    def test_one_way_alone(self):
        chart = chart_of((DOCK, [(1, 0), (1, 1), None, (1, -1), None]))
        self.assertIsNone(way_out(chart, ALL, (-1, 0)))
        self.assertEqual(way_home(chart, ALL, (-1, 0)), "s")
        self.assertEqual(way_out(chart, ALL, (1, 0)), "s")
        self.assertIsNone(way_home(chart, ALL, (1, 0)))

    def test_cells_beyond_the_area(self):
        chart = chart_of((DOCK, [PLAIN] * 5))
        self.assertIsNone(way_out(chart, Box(0, 0, 0, 0), (0, 1)))
        self.assertIsNone(way_home(chart, Box(0, 0, 0, 0), (0, 1)))

    def test_the_same_each_time(self):
        floor = plain_floor(4, 4, (1, 1))
        chart = felt_on(floor, floor.cells())
        for cell in floor.cells():
            self.assertEqual(way_out(chart, ALL, cell), way_out(chart.copied(), ALL, cell))
            self.assertEqual(way_home(chart, ALL, cell), way_home(chart, ALL, cell))


if __name__ == "__main__":
    unittest.main()
