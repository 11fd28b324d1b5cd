import random
import unittest

from dustwalk.areas import Box, Everywhere
from dustwalk.carried import fits, parting
from dustwalk.cells import DOCK
from dustwalk.charts import Chart
from dustwalk.closures import closure, round_trip
from dustwalk.desk import Desk
from dustwalk.distances import homes, outs
from dustwalk.errors import BadFloor, NoDock, NoRow, NoText, TooMany
from dustwalk.tables import too_far
from dustwalk.texts import read_chart, read_floor, show_area, show_chart, show_floor
from dustwalk.walker import clean
from helpers import PLAIN, World, drawn_dock_area, drawn_floor, plain_floor, told, walked

FLOOR = "dock 0 1\n# 1 2:-1\n1 # 1"
ROW = "dock 0 0\n1 1 1 1"
LINES = ("forget", "show", "chart", "clean 9 everywhere", "closure 9 everywhere", "far 9 0 1 everywhere",
         "round 9 0 1 everywhere", "find 0 0", "part 0 0")


def cells_text(cells):
    return ", ".join(f"{row} {column}" for row, column in cells)


def desk_with(text):
    desk = Desk()
    assert desk.say("floor\n" + text) == "ok"
    return desk


def kept(desk):
    """What a desk keeps, as far as it tells."""
    return (desk.say("show"), desk.say("chart"))


class TestLines(unittest.TestCase):
    """[33]"""

    def test_floor_and_show(self):
        desk = Desk()
        self.assertEqual(desk.say("floor\n" + FLOOR), "ok")
        self.assertEqual(desk.say("show"), FLOOR)
        self.assertEqual(desk.say("chart"), "")
        self.assertEqual(desk.say("floor\n" + ROW), "ok")
        self.assertEqual(desk.say("show"), ROW)

    def test_a_new_floor_has_a_new_chart(self):
        desk = desk_with(ROW)
        desk.say("clean 9 everywhere")
        self.assertNotEqual(desk.say("chart"), "")
        self.assertEqual(desk.say("floor\n" + ROW), "ok")
        self.assertEqual(kept(desk), (ROW, ""))

    def test_forget(self):
        desk = desk_with(ROW)
        desk.say("clean 9 everywhere")
        self.assertEqual(desk.say("forget"), "ok")
        self.assertEqual(kept(desk), (ROW, ""))
        self.assertEqual(desk.say("forget"), "ok")
        self.assertEqual(desk.say("clean 9 everywhere"), "4 0")

    def test_clean(self):
        desk = desk_with(ROW)
        self.assertEqual(desk.say("clean 0 everywhere"), "1 1")
        self.assertEqual(desk.say("clean 2 everywhere"), "1 1")
        self.assertEqual(desk.say("clean 2 everywhere"), "0 1")
        self.assertEqual(desk.say("clean 5 everywhere"), "1 1")
        self.assertEqual(desk.say("clean 6 everywhere"), "1 0")
        self.assertEqual(desk.say("clean 6 everywhere"), "0 0")
        self.assertEqual(desk.say("clean 6 box 0 0 0 0"), "0 0")

    def test_chart(self):
        desk = desk_with(ROW)
        desk.say("clean 0 everywhere")
        self.assertEqual(desk.say("chart"), "-1 0 #\n0 -1 #\n0 0 1 +\n0 1 1\n1 0 #")

    def test_closure(self):
        desk = desk_with(ROW)
        self.assertEqual(desk.say("closure 0 everywhere"), "0 0")
        self.assertEqual(desk.say("closure 5 everywhere"), "0 0, 0 1, 0 2")
        self.assertEqual(desk.say("closure 99 box 0 0 0 1"), "0 0, 0 1")
        self.assertEqual(desk.say("chart"), "")

    def test_far(self):
        desk = desk_with(ROW)
        desk.say("clean 2 everywhere")
        self.assertEqual(desk.say("far 3 0 2 everywhere"), "yes")
        self.assertEqual(desk.say("far 4 0 2 everywhere"), "no")
        self.assertEqual(desk.say("far 99 0 3 everywhere"), "yes")
        self.assertEqual(desk.say("far 99 -7 7 everywhere"), "yes")
        self.assertEqual(desk.say("far 0 0 0 everywhere"), "no")
        self.assertEqual(desk.say("far 99 0 2 box 0 0 0 1"), "yes")

    def test_far_where_the_chart_does_not_know_the_dock(self):
        # Outs and homes have no dock then, and so are no tables.
        self.assertEqual(desk_with(ROW).say("far 3 0 2 everywhere"), "no")

    def test_round(self):
        desk = desk_with(ROW)
        self.assertEqual(desk.say("round 9 0 0 everywhere"), "none")
        desk.say("clean 2 everywhere")
        self.assertEqual(desk.say("round 4 0 2 everywhere"), "eeww")
        self.assertEqual(desk.say("round 3 0 2 everywhere"), "none")
        self.assertEqual(desk.say("round 0 0 0 everywhere"), "")
        self.assertEqual(desk.say("round 9 -1 0 everywhere"), "none")
        self.assertEqual(desk.say("round 9 0 2 box 0 0 0 1"), "none")

    def test_find(self):
        desk = desk_with("dock 0 0\n1 1 1 1 1")
        self.assertEqual(desk.say("find 0 1"), "")
        desk.say("clean 4 everywhere")
        self.assertEqual(desk.say("find 0 1"), "0 1, 0 2")
        self.assertEqual(desk.say("find 0 3"), "0 1, 0 2")
        self.assertEqual(desk.say("find 0 0"), "0 0")
        self.assertEqual(desk.say("find 0 4"), "")
        self.assertEqual(desk.say("find 5 5"), "")
        self.assertEqual(desk.say("find -1 0"), "")

    def test_part(self):
        desk = desk_with("dock 0 0\n1 1 1 1 1")
        self.assertEqual(desk.say("part 0 1"), "none")
        desk.say("clean 99 everywhere")
        self.assertEqual(desk.say("part 0 0"), "0")
        self.assertEqual(desk.say("part 0 1"), "2")
        self.assertEqual(desk.say("part 5 5"), "none")
        self.assertEqual(desk.say("part -1 0"), "none")

    def test_part_where_none_parts(self):
        desk = desk_with("dock 0 2\n1 1 1 1 1 1")
        desk.say("clean 99 box 0 0 0 1")
        self.assertEqual(desk.say("find 0 0"), "0 0, 0 1")
        self.assertEqual(desk.say("part 0 0"), "none")
        desk.say("clean 99 everywhere")
        self.assertEqual(desk.say("find 0 0"), "0 -1, 0 0, 0 1, 0 2")
        self.assertEqual(desk.say("part 0 0"), "3")

    def test_numbers_below_0(self):
        desk = desk_with("dock 1 1\n1 1 1\n1 1 1\n1 1 1")
        desk.say("clean 99 everywhere")
        self.assertEqual(desk.say("find -1 -1"), "-1 -1")
        self.assertEqual(desk.say("closure 2 box -1 -1 0 0"), "-1 0, 0 -1, 0 0")
        self.assertEqual(desk.say("far 3 -1 -1 everywhere"), "yes")
        self.assertEqual(desk.say("far 4 -1 -1 everywhere"), "no")

    def test_answers_are_texts(self):
        desk = desk_with(ROW)
        for line in LINES + LINES:
            self.assertIsInstance(desk.say(line), str)

    def test_asking_changes_nothing(self):
        desk = desk_with(ROW)
        desk.say("clean 4 everywhere")
        before = kept(desk)
        for line in LINES:
            if line not in ("forget", "clean 9 everywhere"):
                first = desk.say(line)
                self.assertEqual(desk.say(line), first)
                self.assertEqual(kept(desk), before)

    def test_two_desks_know_nothing_of_one_another(self):
        one, other = desk_with(ROW), Desk()
        one.say("clean 9 everywhere")
        with self.assertRaises(NoRow):
            other.say("show")
        other.say("floor\n" + FLOOR)
        self.assertEqual(kept(other), (FLOOR, ""))
        before = kept(one)
        other.say("clean 9 everywhere")
        other.say("forget")
        self.assertEqual(kept(one), before)

    def test_drawn_floors_against_the_functions(self):
        draw = random.Random(101)
        for turn in range(60):
            floor = drawn_floor(draw, draw.randint(1, 5), draw.randint(1, 5), 0.2, (1, 2), (0, 0, 0, 0, 1))
            desk, chart = desk_with(show_floor(floor)), Chart()
            for cleaning in range(3):
                self.ask(draw, desk, floor, chart)
                full, area = draw.choice((0, 3, 8, 30)), draw.choice((Everywhere(), drawn_dock_area(draw)))
                world = World(floor)
                report = clean(world.feel, world.step, full, area, chart)
                more = len(report.chart.stood()) - len(chart.stood())
                chart = report.chart
                self.assertEqual(desk.say(f"clean {full} {show_area(area)}"), f"{more} {len(report.left)}")
                self.assertEqual(desk.say("chart"), show_chart(chart))
                self.assertEqual(told(read_chart(desk.say("chart"))), told(chart))
                self.assertEqual(desk.say(f"clean {full} {show_area(area)}"), f"0 {len(report.left)}")
            self.assertEqual(desk.say("show"), show_floor(floor))

    def ask(self, draw, desk, floor, chart):
        full, area = draw.choice((0, 3, 8, 30)), draw.choice((Everywhere(), drawn_dock_area(draw)))
        words = show_area(area)
        self.assertEqual(desk.say(f"closure {full} {words}"), cells_text(closure(floor, area, full, chart)))
        for cell in floor.cells() + [(9, -9)]:
            spot = f"{cell[0]} {cell[1]}"
            far = too_far(chart, area, full, cell, outs(chart, area), homes(chart, area))
            self.assertEqual(desk.say(f"far {full} {spot} {words}"), "yes" if far else "no")
            sides = desk.say(f"round {full} {spot} {words}")
            if round_trip(chart, area, full, cell) is None:
                self.assertEqual(sides, "none")
            else:
                end, cost = walked(chart, area, DOCK, sides)
                self.assertEqual(end, DOCK)
                self.assertLessEqual(cost, full)
            cells = fits(chart, floor.felt(cell))
            self.assertEqual(desk.say(f"find {spot}"), cells_text(cells))
            if 0 < len(cells) <= 8:
                parted = parting(chart, cells)
                self.assertEqual(desk.say(f"part {spot}"), "none" if parted is None else str(parted[0]))


class TestRefused(unittest.TestCase):
    """[33], [31], [32]"""

    def refused(self, error, line, desk=None):
        """A line is refused with just this error, and what the desk keeps stays."""
        desk = self.used() if desk is None else desk
        before = kept(desk)
        with self.assertRaises(error, msg=repr(line)[:200]):
            desk.say(line)
        self.assertEqual(kept(desk), before)
        self.assertEqual(desk.say("closure 4 everywhere"), "0 0, 0 1, 0 2")

    def used(self):
        desk = desk_with(ROW)
        desk.say("clean 4 everywhere")
        return desk

    def test_what_is_no_text(self):
        for thing in (None, 0, True, 1.5, b"show", ["show"], ("show",), {}, object()):
            self.refused(NoRow, thing)
            with self.assertRaises(NoRow):
                Desk().say(thing)

    def test_other_words_ahead(self):
        for line in ("", " ", "\n", "hello", "Show", "SHOW", "shows", " show", "show\n", "show\t", "\tshow", "floor", "floor ",
                     "floor " + ROW, " floor\n" + ROW, "Floor\n" + ROW, "floor \n" + ROW, "floors\n" + ROW, "floor\t\n" + ROW,
                     "floor\r\n" + ROW, "floor dock 0 0\n1", ROW, "9 everywhere", "clean\n9 everywhere", "clean\t9 everywhere",
                     "cleaned 9 everywhere", "team 9 everywhere", "find\n0 0", "show;chart", "far", "area everywhere"):
            self.refused(NoRow, line)

    def test_more_or_fewer_words(self):
        for line in ("forget ", "forget 1", "show ", "show all", "chart chart", "chart ", "clean", "clean ", "clean 9",
                     "closure", "closure 9", "far 9", "far 9 0", "far 9 0 1", "far everywhere", "far 9 everywhere",
                     "round", "round 9 0 1", "round 9 everywhere", "find", "find 0", "find 0 ", "find 0 0 0", "find 0 0 ",
                     "find  0 0", "find 0  0", "part", "part 0", "part 0 0 0", "part 0 0 everywhere", "show  "):
            if line not in ("find 0 ",):
                self.refused(NoRow, line)
        # Two blanks, or one at an end, make a word without signs: there are words enough, and one is no number.
        self.refused(NoText, "find 0 ")
        self.refused(NoText, "clean  everywhere")
        self.refused(NoText, "clean  9 everywhere")
        self.refused(NoText, "far 9 0  everywhere")

    def test_an_area_is_all_that_stands_behind_the_blank(self):
        for head in ("clean 9", "closure 9", "far 9 0 1", "round 9 0 1"):
            for area in ("", " ", "everywhere ", " everywhere", "everywhere everywhere", "box 0 0 0", "box 0 0 0 0 0", "nowhere",
                         "everywhere\n", "box 0 0 0 00", "outside", "9 everywhere", "both everywhere"):
                self.refused(NoText, f"{head} {area}")
        desk = self.used()
        self.assertEqual(desk.say("closure 9 both either box 0 0 0 0 everywhere outside box 0 2 0 2"), "0 0, 0 1")

    def test_numbers(self):
        for word in ("x", "01", "-0", "+1", "1.0", "9" * 61, "#", "1:1", "1\n", "everywhere"):
            self.refused(NoText, f"clean {word} everywhere")
            self.refused(NoText, f"closure {word} everywhere")
            for head in ("far", "round"):
                self.refused(NoText, f"{head} {word} 0 0 everywhere")
                self.refused(NoText, f"{head} 9 {word} 0 everywhere")
                self.refused(NoText, f"{head} 9 0 {word} everywhere")
            for head in ("find", "part"):
                self.refused(NoText, f"{head} {word} 0")
                self.refused(NoText, f"{head} 0 {word}")

    def test_a_store_is_from_0_on(self):
        for line in ("clean -1 everywhere", "closure -1 everywhere", "far -1 0 0 everywhere", "round -1 0 0 everywhere",
                     "clean -" + "9" * 60 + " everywhere"):
            self.refused(NoText, line)
        self.assertEqual(self.used().say("closure " + "9" * 60 + " everywhere"), "0 0, 0 1, 0 2, 0 3")

    def test_no_dock(self):
        for area in ("box 1 1 2 2", "outside everywhere", "box 1 0 0 0", "both everywhere box 0 1 0 1"):
            for head in ("clean 9", "closure 9", "far 9 0 1", "round 9 0 1", "far 0 0 0", "round 9 0 0"):
                self.refused(NoDock, f"{head} {area}")
                self.assertRaises(NoDock, desk_with(ROW).say, f"{head} {area}")

    def test_floors(self):
        for text in ("", " ", "dock", "dock 0 0\n", "dock 0 0\n1\n", "\n" + ROW, ROW + "\n", ROW + " ", "dock 0 0\n1:0", "1 1 1"):
            self.refused(NoText, "floor\n" + text)
        for text in ("dock 0 0", "dock 0 0\n0", "dock 0 0\n#", "dock 1 0\n1", "dock 0 0\n1 1\n1"):
            self.refused(BadFloor, "floor\n" + text)
        self.refused(TooMany, "floor\ndock 0 0\n" + "\n".join(["1"] * 2501))

    def test_without_a_floor(self):
        for line in LINES + ("", "hello", "clean x everywhere", "clean 9 box 1 1 2 2", "find x y", "show all", "floor"):
            with self.assertRaises(NoRow):
                Desk().say(line)
        for text, error in (("dock 0 0", BadFloor), ("", NoText), ("dock 0 0\n" + "\n".join(["1"] * 2501), TooMany)):
            desk = Desk()
            with self.assertRaises(error):
                desk.say("floor\n" + text)
            for line in LINES:
                with self.assertRaises(NoRow):
                    desk.say(line)
            self.assertEqual(desk.say("floor\n" + ROW), "ok")
            self.assertEqual(kept(desk), (ROW, ""))

    def test_the_order_where_two_things_are_wrong(self):
        self.refused(NoRow, "find x y z")
        self.refused(NoRow, "wash -1 nowhere")
        self.refused(NoRow, "far x y")
        self.refused(NoText, "clean x box 1 1 2 2")
        self.refused(NoText, "clean -1 box 1 1 2 2")
        self.refused(NoText, "far 9 x 0 box 1 1 2 2")
        self.refused(NoText, "round 9 0 x box 1 1 2 2")
        self.refused(NoText, "floor\ndock 0 0\n0 x")
        self.refused(BadFloor, "floor\ndock 9 9\n" + "\n".join(["1"] * 2501))

    def test_too_many_to_part(self):
        desk = desk_with(show_floor(plain_floor(5, 5, (2, 2))))
        desk.say("clean 99 everywhere")
        before = kept(desk)
        self.assertEqual(len(desk.say("find 0 0").split(", ")), 9)
        with self.assertRaises(TooMany):
            desk.say("part 0 0")
        self.assertEqual(desk.say("part 2 2"), "0")
        self.assertEqual(kept(desk), before)

    def test_too_many_stood_on_to_part(self):
        desk = desk_with(show_floor(plain_floor(1, 201, (0, 0))))
        desk.say("clean 398 everywhere")
        self.assertEqual(desk.say("part 0 0"), "0")
        self.assertEqual(desk.say("clean 999 everywhere"), "1 0")
        for line in ("part 0 0", "part 0 5", "part 9 9"):
            with self.assertRaises(TooMany):
                desk.say(line)
        self.assertEqual(desk.say("find 0 0"), "0 0")


class TestSameQuestions(unittest.TestCase):
    """[2]"""

    def test_the_same_lines_have_the_same_answers(self):
        answers = []
        for turn in range(2):
            desk = Desk()
            answers.append([desk.say(line) for line in ("floor\n" + FLOOR,) + LINES + LINES])
        self.assertEqual(answers[0], answers[1])

    def test_the_documents_floor_through_the_desk(self):
        desk = desk_with(FLOOR)
        self.assertEqual(desk.say("clean 9 everywhere"), "1 1")
        floor = read_floor(desk.say("show"))
        self.assertEqual(closure(floor, Everywhere(), 9), [DOCK])
        self.assertEqual(floor.ground(DOCK), PLAIN)
        self.assertEqual(desk.say("closure 9 " + show_area(Box(0, 0, 0, 0))), "0 0")


if __name__ == "__main__":
    unittest.main()
