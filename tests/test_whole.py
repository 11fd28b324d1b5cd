"""[1], [2], [3]: what is promised over the whole program, on drawn floors."""

import importlib
import random
import unittest

from dustwalk.areas import Everywhere
from dustwalk.cells import DOCK
from dustwalk.closures import closure, felt_from
from dustwalk.distances import homes, known_steps, outs
from dustwalk.roaming import roam
from dustwalk.tables import is_home_table, is_out_table, too_far
from dustwalk.teams import team
from dustwalk.walker import clean
from dustwalk.watchman import lets, shut_floor, sides_let
from helpers import World, drawn_dock_area, drawn_floor, felt_on, in_rounds, told

ALL = Everywhere()
NAMES = {
    "errors": "DustError BadFloor TooMany Clash NoDock NoText NoRow",
    "cells": "SIDES DOCK is_whole beside can_step",
    "floors": "Floor",
    "charts": "Chart poured",
    "areas": "Area Everywhere Box Both Either Outside",
    "distances": "known_steps outs homes way_out way_home",
    "tables": "is_out_table is_home_table too_far",
    "watchman": "lets sides_let shut_floor",
    "closures": "felt_from closure round_trip",
    "roaming": "roam",
    "reports": "Report",
    "walker": "clean",
    "teams": "team",
    "carried": "fits moved parting",
    "texts": "show_floor show_area show_chart read_floor read_area read_chart",
    "desk": "Desk",
}


def draws(seed, turns):
    draw = random.Random(seed)
    for turn in range(turns):
        floor = drawn_floor(draw, draw.randint(1, 6), draw.randint(1, 6), draw.choice((0.1, 0.25)),
                            draw.choice(((1,), (1, 2, 5))), draw.choice(((0,), (0, 0, 0, 0, 1, -1))))
        yield draw, floor, draw.choice((ALL, drawn_dock_area(draw))), draw.choice((0, 2, 5, 9, 20, 60))


class TestTheWhole(unittest.TestCase):
    def test_the_names_of_the_interface(self):
        for module, names in NAMES.items():
            found = importlib.import_module(f"dustwalk.{module}")
            for name in names.split():
                self.assertTrue(hasattr(found, name), (module, name))

    def test_the_walker_stands_on_just_the_closure_and_tells_what_it_felt(self):
        for draw, floor, area, full in draws(111, 150):
            world = World(floor)
            report = clean(world.feel, world.step, full, area)
            cells = closure(floor, area, full)
            self.assertEqual(report.chart.stood(), cells)
            self.assertEqual(told(report.chart), told(felt_from(floor, cells)))
            self.assertEqual(world.place, DOCK)
            for cell in report.chart.known():
                self.assertEqual(report.chart.ground(cell), floor.ground(cell))

    def test_tables_part_the_closure_from_what_is_left(self):
        for draw, floor, area, full in draws(112, 150):
            world = World(floor)
            report = clean(world.feel, world.step, full, area)
            chart = report.chart
            self.assertIs(is_out_table(chart, area, report.outs), True)
            self.assertIs(is_home_table(chart, area, report.homes), True)
            for cell in chart.known():
                far = too_far(chart, area, full, cell, report.outs, report.homes)
                self.assertIs(far, not chart.has_stood(cell))

    def test_drawn_tables_never_show_it_of_a_cell_of_the_closure(self):
        let_by = 0
        for draw, floor, area, full in draws(113, 300):
            cells = closure(floor, area, full)
            chart = felt_on(floor, cells)
            first, second = outs(chart, area), homes(chart, area)
            lower = draw.randrange(4)
            first = {cell: cost - lower for cell, cost in first.items()}
            for table in (first, second):
                if draw.random() < 0.5:
                    table[draw.choice(chart.known())] = draw.randint(-3, 12)
            let_by += is_out_table(chart, area, first) and is_home_table(chart, area, second)
            for cell in cells:
                self.assertIs(too_far(chart, area, full, cell, first, second), False)
        self.assertGreater(let_by, 50)

    def test_all_picking_stays_on_the_closure_and_can_go_home(self):
        for draw, floor, area, full in draws(114, 150):
            world = World(floor)
            turns = draw.randrange(60)
            chart, steps, left = roam(world.feel, world.step, full, area,
                                      lambda sides: draw.choice(sides + ["n"]), turns)
            self.assertLessEqual(set(chart.stood()), set(closure(floor, area, full)))
            self.assertGreaterEqual(left, homes(chart, area)[world.place])
            self.assertEqual(told(chart), told(felt_from(floor, chart.stood())))

    def test_what_the_watchman_forbids_has_no_way_home_on_the_shut_floor(self):
        forbidden = 0
        for draw, floor, area, full in draws(115, 150):
            world = World(floor)
            chart, steps, left = roam(world.feel, world.step, full, area,
                                      lambda sides: draw.choice(sides + ["n"]), draw.randrange(30))
            shut = shut_floor(chart)
            for cell in chart.stood():
                self.assertEqual(shut.felt(cell), floor.felt(cell))
            whole = homes(felt_from(shut, shut.cells()), area)
            sides = sides_let(chart, area, world.place, left)
            for side, end, cost in known_steps(chart, area, world.place):
                self.assertIs(lets(chart, area, world.place, left, side), side in sides)
                if side not in sides:
                    forbidden += 1
                    self.assertTrue(end not in whole or whole[end] > left - cost)
        self.assertGreater(forbidden, 30)

    def test_the_closure_is_where_rounds_end(self):
        for draw, floor, area, full in draws(116, 100):
            cells = closure(floor, area, full)
            self.assertEqual(sorted(in_rounds(felt_on(floor, cells), area, full)), cells)
            self.assertEqual(closure(shut_floor(felt_on(floor, cells)), area, full), cells)

    def test_a_team_of_one_is_a_walker(self):
        for draw, floor, area, full in draws(117, 60):
            one, other = World(floor), World(floor)
            report = clean(one.feel, one.step, full, area)
            chart, steps = team([(other.feel, other.step, full, area)])
            self.assertEqual((told(chart), steps), (told(report.chart), [report.steps]))


if __name__ == "__main__":
    unittest.main()
