import itertools
import random
import unittest

from dustwalk.areas import Box, Everywhere, Outside
from dustwalk.cells import DOCK
from dustwalk.charts import Chart
from dustwalk.closures import closure
from dustwalk.errors import Clash, NoDock
from dustwalk.floors import Floor
from dustwalk.teams import team
from dustwalk.walker import clean
from helpers import (HUGE, NO_DOCK_AREAS, Turncoat, World, drawn_dock_area, drawn_floor, felt_on, near, never,
                     never_step, plain_floor, slow_closure, told, told_floor)

ALL = Everywhere()


class TestTeams(unittest.TestCase):
    """[26]"""

    def cleaned(self, floor, crew):
        """What a team tells on a floor, with its worlds; the crew are tuples (full, area)."""
        worlds = [World(floor) for machine in crew]
        machines = [(world.feel, world.step, full, area) for world, (full, area) in zip(worlds, crew)]
        handed = list(machines)
        answer = team(machines)
        self.assertEqual(machines, handed)
        self.assertIsInstance(answer, tuple)
        self.assertEqual(len(answer), 2)
        return answer[0], answer[1], worlds

    def check(self, floor, crew):
        before = told_floor(floor)
        chart, steps, worlds = self.cleaned(floor, crew)
        self.assertEqual(told_floor(floor), before)
        self.assertIsInstance(chart, Chart)
        self.assertIsInstance(steps, list)
        self.assertEqual(steps, [world.steps() for world in worlds])
        for world in worlds:
            self.assertEqual(world.place, DOCK)
            self.assertEqual(world.asked[0], "feel")
            for asked, behind in zip(world.asked, world.asked[1:] + ["end"]):
                self.assertTrue(asked == "feel" or behind == "feel")
        wanted = slow_closure(floor, crew)
        self.assertEqual(told(chart), told(felt_on(floor, wanted)))
        self.assertEqual((chart.stood(), steps), self.by_turns(floor, crew))
        return chart, steps

    def by_turns(self, floor, crew):
        """The rounds of walks, told once more."""
        chart, steps = Chart(), ["" for machine in crew]
        while True:
            before = chart.stood()
            for i, (full, area) in enumerate(crew):
                world = World(floor)
                chart = clean(world.feel, world.step, full, area, chart).chart
                steps[i] += world.steps()
            if chart.stood() == before:
                return chart.stood(), steps

    def test_one_machine(self):
        floor = plain_floor(3, 4, (1, 1))
        for full in (0, 1, 2, 5, HUGE):
            chart, steps = self.check(floor, [(full, ALL)])
            world = World(floor)
            report = clean(world.feel, world.step, full, ALL)
            self.assertEqual(steps, [report.steps])
            self.assertEqual(chart.stood(), closure(floor, ALL, full))

    def test_two_machines_with_unlike_stores(self):
        floor = plain_floor(1, 9, (0, 4))
        for one, other in itertools.product((0, 2, 5, 8, HUGE), repeat=2):
            chart, steps = self.check(floor, [(one, ALL), (other, ALL)])
            self.assertEqual(chart.stood(), closure(floor, ALL, max(one, other)))

    def test_the_second_need_not_clean_again(self):
        floor = plain_floor(3, 3, (1, 1))
        chart, steps = self.check(floor, [(HUGE, ALL), (HUGE, ALL)])
        self.assertEqual(steps[1], "")
        chart, steps = self.check(floor, [(0, ALL), (HUGE, ALL)])
        self.assertEqual(steps[0], "")
        self.assertNotEqual(steps[1], "")

    def test_unlike_areas(self):
        floor = plain_floor(5, 5, (2, 2))
        chart, steps = self.check(floor, [(HUGE, Box(-2, 0, 2, 0)), (HUGE, Box(0, -2, 0, 2))])
        self.assertEqual(chart.stood(), sorted({(k, 0) for k in range(-2, 3)} | {(0, k) for k in range(-2, 3)}))
        self.assertEqual(set(steps[0]), set("ns"))
        self.assertEqual(set(steps[1]), set("ew"))

    def test_the_dock_alone(self):
        chart, steps = self.check(plain_floor(1, 1, (0, 0)), [(HUGE, ALL)] * 3)
        self.assertEqual((chart.stood(), steps), ([DOCK], ["", "", ""]))

    def test_each_order_of_the_machines(self):
        draw = random.Random(71)
        for turn in range(12):
            floor = drawn_floor(draw, 5, 5, 0.15, (1, 2), (0, 0, 0, 0, 1))
            crew = [(draw.choice((0, 4, 9, 20, HUGE)), draw.choice((ALL, drawn_dock_area(draw)))) for k in range(3)]
            wanted = slow_closure(floor, crew)
            for order in itertools.permutations(crew):
                self.assertEqual(self.cleaned(floor, list(order))[0].stood(), wanted)

    def test_one_to_six_machines(self):
        draw = random.Random(72)
        for turn in range(60):
            floor = drawn_floor(draw, draw.randint(1, 5), draw.randint(1, 5), 0.15, (1, 2, 5), (0, 0, 0, 0, 1))
            crew = [(draw.choice((0, 2, 5, 9, 20, HUGE)), draw.choice((ALL, drawn_dock_area(draw))))
                    for k in range(draw.randint(1, 6))]
            self.check(floor, crew)

    def test_the_steps_stay_within_each_machines_area(self):
        draw = random.Random(73)
        for turn in range(30):
            floor = drawn_floor(draw, 5, 5, 0.1, (1, 2), (0,))
            crew = [(HUGE, drawn_dock_area(draw)) for k in range(3)]
            for (full, area), steps in zip(crew, self.cleaned(floor, crew)[1]):
                place = DOCK
                for side in steps:
                    place = near(place, side)
                    self.assertTrue(area.has(place))

    def test_the_list_handed_in_may_change_later(self):
        floor = plain_floor(3, 3, (1, 1))
        worlds, machines = [World(floor), World(floor)], []

        def step(side):
            machines.clear()
            worlds[0].step(side)

        machines += [(worlds[0].feel, step, 2, ALL), (worlds[1].feel, worlds[1].step, HUGE, ALL)]
        chart, steps = team(machines)
        self.assertEqual(chart.stood(), floor.cells())
        self.assertEqual(steps, [worlds[0].steps(), worlds[1].steps()])

    def test_the_same_each_time(self):
        floor = drawn_floor(random.Random(74), 5, 5)
        crew = [(5, ALL), (20, Box(-2, -2, 2, 2)), (HUGE, Outside(Box(1, 1, 9, 9)))]
        first, second = self.cleaned(floor, crew), self.cleaned(floor, crew)
        self.assertEqual((told(first[0]), first[1]), (told(second[0]), second[1]))
        first[0].note((50, 50), [(1, 0)] * 5)
        first[1].clear()
        third = self.cleaned(floor, crew)
        self.assertEqual((told(third[0]), third[1]), (told(second[0]), second[1]))


class TestRefused(unittest.TestCase):
    """[26], [22], [11]"""

    def test_no_dock_of_whichever_machine(self):
        for area in NO_DOCK_AREAS:
            for count in range(1, 7):
                for place in range(count):
                    machines = [(never, never_step, 9, area if k == place else ALL) for k in range(count)]
                    with self.assertRaises(NoDock):
                        team(machines)

    def test_a_world_that_clashes(self):
        floor = plain_floor(1, 2, (0, 0))
        for feels in (1, 2):
            world = Turncoat(floor, feels)
            with self.assertRaises(Clash) as caught:
                team([(world.feel, world.step, 9, ALL)])
            self.assertEqual(caught.exception.cell, world.place)

    def test_two_worlds_that_clash(self):
        one, other = World(Floor([[(1, 0), (2, 0)]], (0, 0))), World(Floor([[(1, 0), (3, 0)]], (0, 0)))
        with self.assertRaises(Clash) as caught:
            team([(one.feel, one.step, 9, ALL), (other.feel, other.step, 9, ALL)])
        self.assertEqual(caught.exception.cell, (0, 1))
        self.assertEqual(other.asked, ["feel"])


if __name__ == "__main__":
    unittest.main()
