import random
import unittest

from dustwalk.areas import Box, Everywhere
from dustwalk.cells import DOCK
from dustwalk.charts import Chart
from dustwalk.distances import homes, outs
from dustwalk.floors import Floor
from dustwalk.tables import is_home_table, is_out_table, too_far
from helpers import (HUGE, all_steps, chart_of, drawn_chart, drawn_dock_area, drawn_floor, felt_on,
                     plain_floor, slow_homes, slow_outs, told)

ALL = Everywhere()


def slow_out_table(chart, area, table):
    """[15], told here once more."""
    return table.get(DOCK, 1) <= 0 and all(
        end in table and table[end] <= table[cell] + cost
        for cell, side, end, cost in all_steps(chart, area) if cell in table)


def slow_home_table(chart, area, table):
    return table.get(DOCK, 1) <= 0 and all(
        cell in table and table[cell] <= table[end] + cost
        for cell, side, end, cost in all_steps(chart, area) if end in table)


def draws(seed, turns):
    draw = random.Random(seed)
    for turn in range(turns):
        costs = draw.choice(((1,), (1, 2, 5), (1, HUGE)))
        floor = drawn_floor(draw, draw.randint(1, 4), draw.randint(1, 4), 0.2, costs, (0, 0, 1))
        yield draw, drawn_chart(draw, floor, draw.choice((0.4, 1))), drawn_dock_area(draw)


class TestTables(unittest.TestCase):
    """[15]"""

    def setUp(self):
        # From the dock e leads down to a cell from which nothing leads back; n is up.
        self.floor = Floor([[(3, 1), None], [(2, 0), (4, -1)], [(5, 0), None]], (1, 0))
        self.chart = felt_on(self.floor, self.floor.cells())
        self.out = {(0, 0): 0, (0, 1): 4, (1, 0): 5}
        self.home = {(0, 0): 0, (-1, 0): 2, (1, 0): 2}

    def test_outs_and_homes_are_tables(self):
        self.assertEqual(outs(self.chart, ALL), self.out)
        self.assertEqual(homes(self.chart, ALL), self.home)
        self.assertIs(is_out_table(self.chart, ALL, self.out), True)
        self.assertIs(is_home_table(self.chart, ALL, self.home), True)

    def test_outs_are_no_home_table_and_homes_no_out_table(self):
        self.assertIs(is_home_table(self.chart, ALL, self.out), False)
        self.assertIs(is_out_table(self.chart, ALL, self.home), False)

    def test_without_the_dock(self):
        for table in ({}, {(7, 7): 0}, {(0, 1): 0}, {(-1, 0): 0}):
            self.assertIs(is_out_table(self.chart, ALL, table), False)
            self.assertIs(is_home_table(self.chart, ALL, table), False)
        for table, ask in ((self.out, is_out_table), (self.home, is_home_table)):
            table.pop(DOCK)
            self.assertIs(ask(self.chart, ALL, table), False)

    def test_the_dock_above_0(self):
        for number in (1, 2, HUGE):
            shifted = {cell: cost + number for cell, cost in self.out.items()}
            self.assertIs(is_out_table(self.chart, ALL, shifted), False)
            shifted = {cell: cost + number for cell, cost in self.home.items()}
            self.assertIs(is_home_table(self.chart, ALL, shifted), False)
            self.assertIs(is_out_table(self.chart, Box(0, 0, 0, 0), {DOCK: number}), False)
            self.assertIs(is_home_table(self.chart, Box(0, 0, 0, 0), {DOCK: number}), False)

    def test_the_dock_at_0_or_below(self):
        for number in (0, -1, -HUGE):
            self.assertIs(is_out_table(self.chart, Box(0, 0, 0, 0), {DOCK: number}), True)
            self.assertIs(is_home_table(self.chart, Box(0, 0, 0, 0), {DOCK: number}), True)

    def test_the_dock_below_0_binds_the_others(self):
        low = dict(self.out)
        low[DOCK] = -1
        self.assertIs(is_out_table(self.chart, ALL, low), False)
        self.assertIs(is_out_table(self.chart, ALL, {c: n - 1 for c, n in self.out.items()}), True)
        self.assertIs(is_home_table(self.chart, ALL, {c: n - 1 for c, n in self.home.items()}), True)

    def test_one_number_more(self):
        for cell in self.out:
            self.assertIs(is_out_table(self.chart, ALL, self.out | {cell: self.out[cell] + 1}), False)
        for cell in self.home:
            self.assertIs(is_home_table(self.chart, ALL, self.home | {cell: self.home[cell] + 1}), False)

    def test_one_number_less_at_an_end(self):
        self.assertIs(is_out_table(self.chart, ALL, self.out | {(0, 1): 3}), True)
        self.assertIs(is_out_table(self.chart, ALL, self.out | {(0, 1): -50}), True)
        self.assertIs(is_home_table(self.chart, ALL, self.home | {(-1, 0): -50}), True)
        # From (1, 0) a step costs 2 to the dock: -2 is the least that binds it no lower than 0.
        self.assertIs(is_out_table(self.chart, ALL, self.out | {(1, 0): -2}), True)
        self.assertIs(is_out_table(self.chart, ALL, self.out | {(1, 0): -3}), False)

    def test_one_cell_left_out(self):
        for cell in self.out:
            self.assertIs(is_out_table(self.chart, ALL, {c: n for c, n in self.out.items() if c != cell}), False)
        for cell in self.home:
            self.assertIs(is_home_table(self.chart, ALL, {c: n for c, n in self.home.items() if c != cell}), False)

    def test_cells_from_nowhere_play_no_part(self):
        extra = {(7, 7): -3, (8, 7): 90, (HUGE, -HUGE): 1, (0, -1): -5, (1, 1): 0}
        self.assertIs(is_out_table(self.chart, ALL, self.out | extra), True)
        self.assertIs(is_home_table(self.chart, ALL, self.home | extra), True)

    def test_cells_beyond_the_area_play_no_part(self):
        area = Box(0, 0, 0, 1)
        self.assertIs(is_out_table(self.chart, area, {DOCK: 0, (0, 1): 4}), True)
        self.assertIs(is_out_table(self.chart, area, {DOCK: 0, (0, 1): 4, (1, 0): -99}), True)
        self.assertIs(is_home_table(self.chart, area, {DOCK: 0, (-1, 0): 99}), True)

    def test_steps_whose_beginning_or_end_is_not_in_it_play_no_part(self):
        # (-1, 0) is in no out table that outs tells, yet may stand in one with any number from -3 + 1 on.
        self.assertIs(is_out_table(self.chart, ALL, self.out | {(-1, 0): -2}), True)
        self.assertIs(is_out_table(self.chart, ALL, self.out | {(-1, 0): -3}), False)
        self.assertIs(is_home_table(self.chart, ALL, self.home | {(0, 1): -4}), True)
        self.assertIs(is_home_table(self.chart, ALL, self.home | {(0, 1): -5}), False)

    def test_a_chart_that_knows_nothing(self):
        self.assertIs(is_out_table(Chart(), ALL, {DOCK: 0}), True)
        self.assertIs(is_home_table(Chart(), ALL, {DOCK: 0}), True)
        self.assertIs(is_out_table(Chart(), ALL, {}), False)
        self.assertIs(is_home_table(Chart(), ALL, {}), False)

    def test_outs_and_homes_of_drawn_charts(self):
        for draw, chart, area in draws(21, 150):
            known = chart.ground(DOCK) not in (None, "?")
            self.assertIs(is_out_table(chart, area, outs(chart, area)), known)
            self.assertIs(is_home_table(chart, area, homes(chart, area)), known)

    def test_drawn_tables(self):
        seen = set()
        for draw, chart, area in draws(22, 600):
            for start in (slow_outs(chart, area), slow_homes(chart, area), {}):
                table = dict(start)
                for change in range(draw.randrange(3)):
                    cell = draw.choice(chart.known() + [DOCK, (9, 9)])
                    if cell in table and draw.random() < 0.3:
                        table.pop(cell)
                    else:
                        table[cell] = table.get(cell, 0) + draw.choice((-2, -1, 0, 1, 2, HUGE))
                before = (dict(table), told(chart))
                answers = (is_out_table(chart, area, table), is_home_table(chart, area, table))
                self.assertEqual(answers, (slow_out_table(chart, area, table), slow_home_table(chart, area, table)))
                self.assertEqual((table, told(chart)), before)
                seen.add(answers)
        self.assertEqual(len(seen), 4)


class TestTooFar(unittest.TestCase):
    """[16]"""

    def test_just_more_than_the_store(self):
        floor = Floor([[(2, 0), (3, 0), (4, 0)]], (0, 0))
        chart = felt_on(floor, floor.cells())
        out, home = outs(chart, ALL), homes(chart, ALL)
        for cell, whole in ((DOCK, 0), ((0, 1), 5), ((0, 2), 12)):
            for full in range(15):
                self.assertIs(too_far(chart, ALL, full, cell, out, home), whole > full)

    def test_a_cell_that_lacks(self):
        chart = chart_of((DOCK, [(1, 0), (1, 1), None, (1, -1), None]))
        out, home = outs(chart, ALL), homes(chart, ALL)
        for cell in ((-1, 0), (1, 0), (0, 1), (8, 8), (HUGE, HUGE)):
            self.assertIs(too_far(chart, ALL, HUGE, cell, out, home), True)
        self.assertIs(too_far(chart, ALL, 0, DOCK, out, home), False)

    def test_both_must_be_tables(self):
        floor = plain_floor(1, 3, (0, 0))
        chart = felt_on(floor, floor.cells())
        out, home = outs(chart, ALL), homes(chart, ALL)
        self.assertIs(too_far(chart, ALL, 3, (0, 2), out, home), True)
        for bad in ({}, out | {DOCK: 1}, out | {(0, 2): 3}, {DOCK: 0, (0, 1): 1}, {DOCK: 0, (0, 2): 9}):
            self.assertIs(too_far(chart, ALL, 3, (0, 2), bad, home), False)
            self.assertIs(too_far(chart, ALL, 3, (0, 2), out, bad), False)
            self.assertIs(too_far(chart, ALL, 3, (9, 9), bad, home), False)
            self.assertIs(too_far(chart, ALL, 3, (9, 9), out, bad), False)

    def test_tables_that_show_less(self):
        floor = plain_floor(1, 3, (0, 0))
        chart = felt_on(floor, floor.cells())
        out, home = outs(chart, ALL), homes(chart, ALL)
        low = {DOCK: 0, (0, 1): 0, (0, 2): 1}
        self.assertIs(too_far(chart, ALL, 2, (0, 2), low, home), True)
        self.assertIs(too_far(chart, ALL, 3, (0, 2), low, home), False)
        self.assertIs(too_far(chart, ALL, 2, (0, 2), out, low), True)
        self.assertIs(too_far(chart, ALL, 3, (0, 2), out, low), False)

    def test_the_first_is_the_out_table(self):
        chart = chart_of((DOCK, [(1, 0), (1, 1), None, (1, -1), None]))
        out, home = outs(chart, ALL), homes(chart, ALL)
        self.assertIs(too_far(chart, ALL, 9, (9, 9), out, home), True)
        self.assertIs(too_far(chart, ALL, 9, (9, 9), home, out), False)

    def test_a_chart_that_does_not_know_the_dock(self):
        # Its outs and homes lack the dock, so that by 15 they are no tables; a table with the dock alone is one.
        self.assertIs(too_far(Chart(), ALL, 9, (0, 1), outs(Chart(), ALL), homes(Chart(), ALL)), False)
        self.assertIs(too_far(Chart(), ALL, 9, (0, 1), {DOCK: 0}, {DOCK: 0}), True)
        self.assertIs(too_far(Chart(), ALL, 9, DOCK, {DOCK: 0}, {DOCK: 0}), False)

    def test_outs_and_homes_show_it_of_just_the_cells_of_which_it_is_so(self):
        for draw, chart, area in draws(23, 150):
            if chart.ground(DOCK) in (None, "?"):
                continue
            out, home = outs(chart, area), homes(chart, area)
            far, near = slow_outs(chart, area), slow_homes(chart, area)
            for cell in chart.known() + [(9, 9)]:
                for full in (0, 1, 4, 9, HUGE):
                    wanted = not (cell in far and cell in near and far[cell] + near[cell] <= full)
                    self.assertIs(too_far(chart, area, full, cell, out, home), wanted)

    def test_whoever_wrote_them(self):
        """No drawn tables show it of a cell to which a round of the store leads."""
        shown = 0
        for draw, chart, area in draws(24, 1500):
            out, home = slow_outs(chart, area), slow_homes(chart, area)
            first, second = dict(out), dict(home)
            for table in (first, second):
                for change in range(draw.randrange(3)):
                    cell = draw.choice(chart.known() + [DOCK])
                    table[cell] = table.get(cell, 0) + draw.choice((-2, -1, 1, 2))
            before = (dict(first), dict(second), told(chart))
            for cell in chart.known():
                full = draw.randrange(8)
                if too_far(chart, area, full, cell, first, second):
                    shown += 1
                    self.assertFalse(cell in out and cell in home and out[cell] + home[cell] <= full)
                    self.assertTrue(slow_out_table(chart, area, first) and slow_home_table(chart, area, second))
            self.assertEqual((first, second, told(chart)), before)
        self.assertGreater(shown, 100)

    def test_large_numbers(self):
        chart = chart_of((DOCK, [(HUGE, 0), None, (HUGE, 0), None, None]))
        out, home = outs(chart, ALL), homes(chart, ALL)
        self.assertIs(too_far(chart, ALL, 2 * HUGE - 1, (0, 1), out, home), True)
        self.assertIs(too_far(chart, ALL, 2 * HUGE, (0, 1), out, home), False)
        self.assertIs(too_far(chart, ALL, 0, (0, 1), out, home), True)


if __name__ == "__main__":
    unittest.main()
