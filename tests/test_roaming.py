import random
import unittest

from dustwalk.areas import Box, Everywhere
from dustwalk.cells import DOCK
from dustwalk.charts import Chart
from dustwalk.closures import closure
from dustwalk.errors import Clash, NoDock
from dustwalk.floors import Floor
from dustwalk.roaming import roam
from helpers import (HUGE, NO_DOCK_AREAS, PLAIN, Turncoat, World, drawn_dock_area, drawn_floor, felt_on, near, never,
                     never_step, plain_floor, slow_homes, slow_sides_let, told)

ALL = Everywhere()


def by_list(answers, seen=None):
    """A pick that gives these answers, one after another, and then None."""
    waiting = list(answers)

    def pick(sides):
        if seen is not None:
            seen.append(list(sides))
        return waiting.pop(0) if waiting else None

    return pick


def told_beside(floor, full, steps):
    """The chart of a machine that made these steps, and what it has left."""
    place, left, chart = DOCK, full, felt_on(floor, [DOCK])
    for side in steps:
        place = near(place, side)
        left = full if place == DOCK else left - floor.ground(place)[0]
        chart.note(place, floor.felt(place))
    return chart, left


class TestRoaming(unittest.TestCase):
    """[22], [23]"""

    def test_picked_steps(self):
        world, seen = World(plain_floor(1, 4, (0, 0))), []
        answer = roam(world.feel, world.step, 6, ALL, by_list("eew", seen), 3)
        self.assertIsInstance(answer, tuple)
        chart, steps, left = answer
        self.assertIsInstance(chart, Chart)
        self.assertEqual((steps, left), ("eew", 3))
        self.assertEqual(seen, [["e"], ["e", "w"], ["e", "w"]])
        self.assertEqual(told(chart), told(felt_on(world.floor, [(0, 0), (0, 1), (0, 2)])))
        self.assertEqual(world.asked, ["feel", "e", "feel", "e", "feel", "w", "feel"])

    def test_no_turns(self):
        world = World(plain_floor(3, 3, (1, 1)))
        chart, steps, left = roam(world.feel, world.step, 7, ALL, never_step, 0)
        self.assertEqual((steps, left), ("", 7))
        self.assertEqual(told(chart), told(felt_on(world.floor, [DOCK])))
        self.assertEqual(world.asked, ["feel"])

    def test_the_store_is_filled_at_the_dock(self):
        world = World(plain_floor(1, 3, (0, 0)))
        chart, steps, left = roam(world.feel, world.step, 4, ALL, by_list("ewee"), 4)
        self.assertEqual((steps, left), ("ewee", 2))
        world = World(plain_floor(1, 3, (0, 0)))
        self.assertEqual(roam(world.feel, world.step, 4, ALL, by_list("ew"), 2)[1:], ("ew", 4))

    def test_the_cost_of_steps(self):
        world = World(Floor([[(2, 0), (3, 0), (5, 0)]], (0, 0)))
        self.assertEqual(roam(world.feel, world.step, 13, ALL, by_list("ee"), 2)[1:], ("ee", 5))
        world = World(Floor([[(2, 0), (3, 0), (5, 0)]], (0, 0)))
        # One coin less is not enough for the second step: a step home in its stead.
        self.assertEqual(roam(world.feel, world.step, 12, ALL, by_list("ee"), 2)[1:], ("ew", 12))

    def test_answers_that_are_no_side_let_by(self):
        for answer in (None, "", "x", "w", "s", "ne", "N", 0, 1, True, [], ["n"], ("e",), {}, object(), 1.5):
            world, seen = World(plain_floor(1, 4, (0, 0))), []
            picks = by_list(["e", "e", answer, answer, answer], seen)
            chart, steps, left = roam(world.feel, world.step, 9, ALL, picks, 5)
            self.assertEqual((steps, left), ("eeww", 9))
            self.assertEqual(len(seen), 5)
            self.assertTrue(world.asked_rightly())

    def test_a_step_too_dear_is_answered_by_a_step_home(self):
        world, seen = World(plain_floor(1, 9, (0, 0))), []
        chart, steps, left = roam(world.feel, world.step, 4, ALL, by_list("eeee", seen), 4)
        self.assertEqual((steps, left), ("eeww", 4))
        self.assertEqual(seen, [["e"], ["e", "w"], ["w"], ["w"]])

    def test_what_is_left_on_the_way(self):
        world = World(plain_floor(1, 9, (0, 0)))
        self.assertEqual(roam(world.feel, world.step, 4, ALL, by_list("eee"), 3)[1:], ("eew", 1))

    def test_perhaps_no_side_is_let_by(self):
        pairs = ((plain_floor(1, 1, (0, 0)), 9), (plain_floor(3, 3, (1, 1)), 1), (plain_floor(1, 2, (0, 0)), 0))
        for floor, full in pairs:
            world, seen = World(floor), []
            chart, steps, left = roam(world.feel, world.step, full, ALL, by_list("nesw", seen), 6)
            self.assertEqual(seen, [[]] * 6)
            self.assertEqual((steps, left), ("", full))
            self.assertEqual(world.asked, ["feel"])

    def test_a_new_list_each_time_that_is_the_pickers_own(self):
        lists = []

        def pick(sides):
            lists.append(sides)
            wanted = list(sides)
            sides.append("n")
            sides.append("s")
            self.assertIsInstance(sides, list)
            return "s" if len(lists) % 2 else wanted[0]

        world = World(plain_floor(1, 3, (0, 1)))
        chart, steps, left = roam(world.feel, world.step, 9, ALL, pick, 4)
        self.assertEqual(steps, "ewe")
        self.assertEqual(len({id(sides) for sides in lists}), 4)

    def test_a_picker_that_empties_its_list(self):
        def pick(sides):
            side = sides[-1]
            sides.clear()
            return side

        world = World(plain_floor(1, 3, (0, 0)))
        self.assertEqual(roam(world.feel, world.step, 9, ALL, pick, 3)[1], "ewe")

    def test_within_an_area(self):
        world, seen = World(plain_floor(3, 3, (1, 1))), []
        roam(world.feel, world.step, 9, Box(0, 0, 0, 1), by_list("nesw", seen), 4)
        self.assertEqual(seen[0], ["e"])
        self.assertEqual(world.steps(), "ew")

    def test_drawn_picking(self):
        draw = random.Random(51)
        for turn in range(120):
            costs = draw.choice(((1, 2, 3), (1, HUGE)))
            floor = drawn_floor(draw, draw.randint(1, 6), draw.randint(1, 6), 0.15, costs, (0, 0, 0, 0, 1, -1))
            self.check(draw, floor, drawn_dock_area(draw), draw.choice((0, 2, 7, 25, 4 * HUGE)), draw.randrange(40))

    def check(self, draw, floor, area, full, turns):
        """Roam, and tell each turn once more beside it."""
        world, asked = World(floor), []

        def pick(sides):
            asked.append(list(sides))
            chart, left = told_beside(floor, full, world.steps())
            self.assertEqual(sides, slow_sides_let(chart, area, world.place, left))
            self.assertGreaterEqual(left, slow_homes(chart, area)[world.place])
            return draw.choice(sides + ["n", "e", "s", "w", None])

        told_chart, steps, left = roam(world.feel, world.step, full, area, pick, turns)
        self.assertEqual(len(asked), turns)
        self.assertTrue(world.asked_rightly())
        chart, wanted = told_beside(floor, full, world.steps())
        self.assertEqual((steps, left), (world.steps(), wanted))
        self.assertEqual(told(told_chart), told(chart))
        self.assertLessEqual(set(told_chart.stood()), set(closure(floor, area, full)))

    def test_else_a_step_of_a_least_way_home(self):
        draw = random.Random(52)
        for turn in range(60):
            floor = drawn_floor(draw, 5, 5, 0.1, (1, 2, 9), (0,))
            world = World(floor)
            picks = [draw.choice("nesw") for pick in range(12)]
            outward = roam(world.feel, world.step, 60, ALL, by_list(picks), 12)
            home = slow_homes(outward[0], ALL)[world.place]
            again = World(floor)
            whole = roam(again.feel, again.step, 60, ALL, by_list(picks), 50)
            self.assertEqual(whole[1][:len(outward[1])], outward[1])
            self.assertEqual(again.place, DOCK)
            # On the way home more may be felt, so that it costs what was known or less.
            self.assertLessEqual(again.cost - world.cost, home)
            self.assertEqual(whole[2], 60)

    def test_the_same_each_time(self):
        floor = drawn_floor(random.Random(53), 5, 5)
        answers = []
        for turn in range(2):
            world, draw = World(floor), random.Random(54)
            chart, steps, left = roam(world.feel, world.step, 20, ALL, lambda sides: draw.choice("nesw"), 60)
            answers.append((told(chart), steps, left))
        self.assertEqual(answers[0], answers[1])


class TestRefused(unittest.TestCase):
    """[22], [11]"""

    def test_a_world_that_clashes(self):
        for feels in range(1, 5):
            world = Turncoat(plain_floor(1, 2, (0, 0)), feels)
            with self.assertRaises(Clash) as caught:
                roam(world.feel, world.step, 9, ALL, by_list("ewewew"), 6)
            self.assertEqual(world.asked.count("feel"), feels + 1)
            self.assertEqual(caught.exception.cell, world.place)

    def test_the_least_cell_that_clashes(self):
        floor = plain_floor(3, 3, (1, 1))
        world = World(floor)

        def feel():
            return [PLAIN] * 5 if world.place == DOCK else [(2, 0)] * 5

        with self.assertRaises(Clash) as caught:
            roam(feel, world.step, 9, ALL, by_list("e"), 1)
        self.assertEqual(caught.exception.cell, (0, 0))

    def test_no_dock_ahead_of_asking_the_world(self):
        for area in NO_DOCK_AREAS:
            for turns in (0, 5):
                with self.assertRaises(NoDock):
                    roam(never, never_step, 9, area, never_step, turns)

    def test_what_the_world_feels_stays_its_own(self):
        felt = [PLAIN, None, None, None, None]
        chart, steps, left = roam(lambda: felt, never_step, 9, ALL, by_list("nesw"), 4)
        self.assertEqual(felt, [PLAIN, None, None, None, None])
        before = told(chart)
        felt.clear()
        self.assertEqual(told(chart), before)


if __name__ == "__main__":
    unittest.main()
