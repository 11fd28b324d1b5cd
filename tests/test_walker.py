import random
import unittest

from dustwalk.areas import Box, Either, Everywhere, Outside
from dustwalk.cells import DOCK
from dustwalk.charts import Chart
from dustwalk.closures import closure
from dustwalk.distances import homes, outs
from dustwalk.errors import Clash, NoDock
from dustwalk.floors import Floor
from dustwalk.reports import Report
from dustwalk.tables import too_far
from dustwalk.walker import clean
from dustwalk.watchman import sides_let
from helpers import (HUGE, NO_DOCK_AREAS, PLAIN, Turncoat, World, chart_of, drawn_chart, drawn_dock_area, drawn_floor,
                     felt_on, near, never, never_step, plain_floor, slow_closure, slow_homes, slow_outs,
                     slow_sides_let, told, told_floor)

ALL = Everywhere()
STORES = (0, 1, 2, 3, 5, 8, 13, 30, HUGE)


class Walks(unittest.TestCase):
    """What every walk is held against."""

    def check(self, floor, full, area=ALL, ahead=None, small=True):
        before = (told_floor(floor), None if ahead is None else told(ahead))
        world = World(floor)
        report = clean(world.feel, world.step, full, area) if ahead is None else \
            clean(world.feel, world.step, full, area, ahead)
        self.assertIsInstance(report, Report)
        self.assertEqual((told_floor(floor), None if ahead is None else told(ahead)), before)
        self.assertTrue(world.asked_rightly())
        self.assertEqual(report.steps, world.steps())
        self.assertEqual(world.place, DOCK)
        chart = self.check_steps(floor, full, area, ahead, report.steps, small)
        self.assertEqual(told(report.chart), told(chart))
        self.check_stood(floor, full, area, ahead, report, small)
        self.check_fields(full, area, report)
        new = [cell for cell in report.chart.stood() if ahead is None or not ahead.has_stood(cell)]
        self.assertLessEqual(world.cost, full * len(new))
        self.check_again(floor, full, area, report)
        return report

    def check_steps(self, floor, full, area, ahead, steps, small):
        """Each step is let by with the chart then; between two stands at the dock a new cell is stood on."""
        chart = Chart() if ahead is None else ahead.copied()
        place, left, fresh = DOCK, full, False
        chart.note(place, floor.felt(place))
        for side in steps:
            self.assertIn(side, (slow_sides_let if small else sides_let)(chart, area, place, left))
            place = near(place, side)
            left = full if place == DOCK else left - floor.ground(place)[0]
            fresh = fresh or not chart.has_stood(place)
            chart.note(place, floor.felt(place))
            if place == DOCK:
                self.assertTrue(fresh)
                fresh = False
        self.assertEqual(place, DOCK)
        return chart

    def check_stood(self, floor, full, area, ahead, report, small):
        cells = slow_closure(floor, [(full, area)], ahead) if small else closure(floor, area, full, ahead)
        wanted = set(cells) | set([] if ahead is None else ahead.stood())
        self.assertEqual(report.chart.stood(), sorted(wanted))

    def check_fields(self, full, area, report):
        chart = report.chart
        self.assertEqual(report.left, [cell for cell in chart.open_cells()
                                       if area.has(cell) and not chart.has_stood(cell)])
        self.assertEqual(report.outs, slow_outs(chart, area))
        self.assertEqual(report.homes, slow_homes(chart, area))
        for cell in report.left:
            self.assertIs(too_far(chart, area, full, cell, report.outs, report.homes), True)
        self.assertIsInstance(report.steps, str)
        self.assertIsInstance(report.left, list)
        self.assertIsInstance(report.outs, dict)
        self.assertIsInstance(report.homes, dict)

    def check_again(self, floor, full, area, report):
        """[25]"""
        before = told(report.chart)
        world = World(floor)
        again = clean(world.feel, world.step, full, area, report.chart)
        self.assertEqual(world.asked, ["feel"])
        self.assertEqual(again.steps, "")
        self.assertEqual(told(again.chart), before)
        self.assertEqual((again.left, again.outs, again.homes), (report.left, report.outs, report.homes))
        self.assertIsNot(again.chart, report.chart)
        self.assertEqual(told(report.chart), before)


class TestWalker(Walks):
    """[24], [25]"""

    def test_the_dock_alone(self):
        for full in STORES:
            report = self.check(plain_floor(1, 1, (0, 0)), full)
            self.assertEqual((report.steps, report.left), ("", []))
            self.assertEqual((report.outs, report.homes), ({DOCK: 0}, {DOCK: 0}))

    def test_one_step_there_and_back(self):
        floor = Floor([[(2, 0), (3, 0)]], (0, 0))
        report = self.check(floor, 5)
        self.assertEqual((report.steps, report.left), ("ew", []))
        report = self.check(floor, 4)
        self.assertEqual((report.steps, report.left), ("", [(0, 1)]))

    def test_a_row(self):
        floor = plain_floor(1, 7, (0, 2))
        for full in range(12):
            report = self.check(floor, full)
            self.assertEqual(len(report.chart.stood()), 1 + min(2, full // 2) + min(4, full // 2))

    def test_a_plain_floor(self):
        for full in STORES:
            self.check(plain_floor(4, 5, (1, 2)), full)

    def test_a_floor_with_a_drop_and_a_rise(self):
        floor = Floor([[(1, 0), (1, -1), (1, 0)], [(1, 0), (1, 0), (1, 0)], [(1, 1), (1, 0), None]], (1, 0))
        report = self.check(floor, HUGE)
        self.assertEqual(report.left, [(-1, 1), (1, 0)])

    def test_drawn_floors(self):
        draw = random.Random(61)
        for turn in range(150):
            costs = draw.choice(((1,), (1, 2, 5), (1, HUGE // 9)))
            heights = draw.choice(((0,), (0, 0, 0, 0, 1), (0, 0, 0, 1, -1)))
            floor = drawn_floor(draw, draw.randint(1, 5), draw.randint(1, 5), draw.choice((0, 0.2)), costs, heights)
            area = draw.choice((ALL, drawn_dock_area(draw)))
            self.check(floor, draw.choice(STORES), area)

    def test_drawn_floors_with_a_chart_known_ahead(self):
        draw = random.Random(62)
        for turn in range(150):
            floor = drawn_floor(draw, draw.randint(1, 5), draw.randint(1, 5), 0.2, (1, 2, 5), (0, 0, 0, 0, 1))
            area = draw.choice((ALL, drawn_dock_area(draw)))
            ahead = drawn_chart(draw, floor, draw.choice((0, 0.2, 0.5, 1)))
            self.check(floor, draw.choice(STORES), area, ahead)

    def test_the_report_of_another_walker_known_ahead(self):
        draw = random.Random(63)
        for turn in range(40):
            floor = drawn_floor(draw, 5, 5, 0.15, (1, 2), (0, 0, 0, 0, 1))
            chart = Chart()
            for walk in range(4):
                area = draw.choice((ALL, drawn_dock_area(draw)))
                chart = self.check(floor, draw.choice(STORES), area, chart).chart

    def test_larger_floors(self):
        draw = random.Random(64)
        for full in (9, 40, HUGE):
            floor = drawn_floor(draw, 11, 12, 0.15, (1, 2, 7), (0, 0, 0, 0, 0, 0, 1))
            self.check(floor, full, ALL, None, False)
            area = Either(Box(-3, -9, 3, 9), Outside(Box(-9, -2, 9, 2)))
            self.check(floor, full, area, drawn_chart(draw, floor, 0.3), False)

    def test_a_floor_of_2500_cells(self):
        for full in (30, 120, HUGE):
            world = World(plain_floor(50, 50, (25, 10)))
            report = clean(world.feel, world.step, full, ALL)
            self.assertEqual(report.chart.stood(), closure(world.floor, ALL, full))
            self.assertEqual(world.place, DOCK)
            self.assertTrue(world.asked_rightly())

    def test_one_row_of_1200(self):
        world = World(plain_floor(1, 1200, (0, 600)))
        report = clean(world.feel, world.step, HUGE, ALL)
        self.assertEqual(report.chart.stood(), world.floor.cells())
        self.assertEqual(report.left, [])

    def test_cells_beyond_the_area_are_noted_and_not_left(self):
        report = self.check(plain_floor(3, 3, (1, 1)), HUGE, Box(0, 0, 0, 0))
        self.assertEqual((report.steps, report.left), ("", []))
        self.assertEqual(len(report.chart.open_cells()), 5)
        report = self.check(plain_floor(3, 3, (1, 1)), 2, Box(-1, -1, 0, 1))
        self.assertEqual(report.left, [(-1, -1), (-1, 1)])

    def test_a_chart_known_ahead_without_the_dock(self):
        floor = plain_floor(1, 6, (0, 0))
        report = self.check(floor, HUGE, ALL, felt_on(floor, [(0, 4)]))
        self.assertEqual(report.chart.stood(), floor.cells())
        self.check(floor, 4, ALL, felt_on(floor, [(0, 4)]))
        self.check(floor, HUGE, ALL, Chart())

    def test_all_known_ahead(self):
        floor = plain_floor(3, 3, (1, 1))
        report = self.check(floor, HUGE, ALL, felt_on(floor, floor.cells()))
        self.assertEqual(report.steps, "")

    def test_none_is_a_new_chart(self):
        floor = drawn_floor(random.Random(65), 5, 5)
        reports = []
        for ahead in (None, Chart()):
            world = World(floor)
            reports.append(clean(world.feel, world.step, 12, ALL, ahead))
        self.assertEqual(reports[0].steps, reports[1].steps)
        self.assertEqual(told(reports[0].chart), told(reports[1].chart))

    def test_the_chart_handed_in_is_copied(self):
        floor = plain_floor(1, 5, (0, 0))
        ahead = felt_on(floor, [(0, 3)])
        report = self.check(floor, HUGE, ALL, ahead)
        self.assertIsNot(report.chart, ahead)
        before = told(report.chart)
        ahead.note((90, 90), [PLAIN] * 5)
        self.assertEqual(told(report.chart), before)

    def test_two_walks_share_nothing(self):
        floor = plain_floor(2, 2, (0, 0))
        first, second = World(floor), World(floor)
        one = clean(first.feel, first.step, 9, ALL)
        other = clean(second.feel, second.step, 9, ALL)
        wanted = (told(other.chart), other.steps, list(other.left), dict(other.outs), dict(other.homes))
        self.assertEqual((told(one.chart), one.steps, one.left, one.outs, one.homes), wanted)
        one.chart.note((50, 50), [PLAIN] * 5)
        one.left.append((1, 1))
        one.outs.clear()
        one.homes[DOCK] = 9
        self.assertEqual((told(other.chart), other.steps, other.left, other.outs, other.homes), wanted)
        self.check_fields(9, ALL, other)


class TestRefused(unittest.TestCase):
    """[22], [11]"""

    def test_no_dock_ahead_of_asking_the_world(self):
        floor = plain_floor(3, 3, (1, 1))
        for area in NO_DOCK_AREAS:
            for ahead in (None, Chart(), felt_on(floor, floor.cells())):
                with self.assertRaises(NoDock):
                    clean(never, never_step, 9, area, ahead)

    def test_a_world_that_clashes(self):
        # There and back on two cells are three feels; from the second on a cell is known before it is stood on.
        for feels in (1, 2):
            world = Turncoat(plain_floor(1, 2, (0, 0)), feels)
            with self.assertRaises(Clash) as caught:
                clean(world.feel, world.step, 9, ALL)
            self.assertEqual(caught.exception.cell, world.place)
            self.assertEqual(world.asked.count("feel"), feels + 1)
        world = Turncoat(plain_floor(1, 2, (0, 0)), 3)
        self.assertEqual(clean(world.feel, world.step, 9, ALL).steps, "ew")

    def test_a_chart_known_ahead_that_clashes(self):
        floor = plain_floor(1, 3, (0, 0))
        for cell, felt, least in (
            (DOCK, [(2, 0), None, PLAIN, None, None], DOCK),
            (DOCK, [PLAIN, None, (2, 0), None, None], (0, 1)),
            ((0, 2), [PLAIN, None, None, None, (1, 1)], (0, 1)),
            ((0, 2), [PLAIN, None, None, None, None], (0, 1)),
            ((0, 3), [PLAIN, None, None, None, PLAIN], (0, 3)),
        ):
            ahead = chart_of((cell, felt))
            before = told(ahead)
            world = World(floor)
            with self.assertRaises(Clash) as caught:
                clean(world.feel, world.step, 9, ALL, ahead)
            self.assertEqual(caught.exception.cell, least)
            self.assertEqual(told(ahead), before)


class TestReports(unittest.TestCase):
    """[24], [2]"""

    def test_the_fields(self):
        chart = chart_of((DOCK, [PLAIN] * 5))
        report = Report(chart, "ew", [(1, 0)], {DOCK: 0}, {DOCK: 0, (0, 1): 1})
        self.assertEqual(told(report.chart), told(chart))
        self.assertEqual(report.steps, "ew")
        self.assertEqual(report.left, [(1, 0)])
        self.assertEqual(report.outs, {DOCK: 0})
        self.assertEqual(report.homes, {DOCK: 0, (0, 1): 1})

    def test_lists_and_dicts_handed_in_may_change_later(self):
        left, first, second = [(1, 0)], {DOCK: 0}, {DOCK: 0}
        report = Report(Chart(), "", left, first, second)
        left.clear()
        first[DOCK] = 7
        second.clear()
        self.assertEqual((report.left, report.outs, report.homes), ([(1, 0)], {DOCK: 0}, {DOCK: 0}))
        report.left.append((2, 2))
        self.assertEqual(left, [])

    def test_outs_and_homes_are_those_of_the_chart(self):
        world = World(plain_floor(3, 3, (1, 1)))
        report = clean(world.feel, world.step, 3, ALL)
        self.assertEqual(report.outs, outs(report.chart, ALL))
        self.assertEqual(report.homes, homes(report.chart, ALL))


if __name__ == "__main__":
    unittest.main()
