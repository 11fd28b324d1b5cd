import random
import unittest

from dustwalk.areas import Both, Box, Either, Everywhere, Outside
from dustwalk.cells import DOCK
from dustwalk.charts import Chart
from dustwalk.errors import BadFloor, NoText, TooMany
from dustwalk.floors import Floor
from dustwalk.texts import read_area, read_chart, read_floor, show_area, show_chart, show_floor
from helpers import (PLAIN, chart_of, drawn_area, drawn_chart, drawn_floor, felt_on, plain_floor, told, told_floor)

LONG = int("9" * 60)
NO_TEXTS = (None, 0, 1, True, False, 1.5, [], ["dock 0 0"], ("dock 0 0\n1",), {}, b"dock 0 0\n1", object(), Floor, Chart())
NO_NUMBERS = ("", "-", "--1", "+1", "-0", "00", "01", "-01", "007", "1.0", "1e3", "0x1", "1_000", "1,0", " 1", "1-", "x",
              "one", "#", "1\t", "\t1", "1\r", "9" * 61, "-" + "1" * 61, "1" + "0" * 60, "0" * 2, "1+", "?", "None")


class Texts(unittest.TestCase):
    def refused(self, read, text):
        with self.assertRaises(NoText, msg=repr(text)[:200]):
            read(text)


class TestFloors(Texts):
    """[31]"""

    def test_the_documents_floor(self):
        text = "dock 0 1\n# 1 2:-1\n1 # 1"
        rows = [[None, (1, 0), (2, -1)], [(1, 0), None, (1, 0)]]
        self.assertEqual(show_floor(Floor(rows, (0, 1))), text)
        floor = read_floor(text)
        self.assertIsInstance(floor, Floor)
        self.assertEqual((floor.rows(), floor.dock()), (rows, (0, 1)))

    def test_the_least_floor(self):
        self.assertEqual(show_floor(plain_floor(1, 1, (0, 0))), "dock 0 0\n1")
        self.assertEqual(told_floor(read_floor("dock 0 0\n1")), told_floor(plain_floor(1, 1, (0, 0))))

    def test_grounds(self):
        for ground, word in (
            (None, "#"), ((1, 0), "1"), ((10, 0), "10"), ((1, 1), "1:1"), ((7, -3), "7:-3"), ((LONG, LONG), "9" * 60 + ":" + "9" * 60),
            ((LONG, -LONG), "9" * 60 + ":-" + "9" * 60), ((20, 100), "20:100"),
        ):
            text = f"dock 0 0\n1 {word}"
            self.assertEqual(show_floor(Floor([[PLAIN, ground]], (0, 0))), text)
            self.assertEqual(read_floor(text).rows(), [[PLAIN, ground]])

    def test_there_and_back(self):
        draw = random.Random(91)
        for turn in range(150):
            costs = draw.choice(((1,), (1, 2, 10, 99), (LONG, LONG - 1)))
            heights = draw.choice(((0,), (0, 1, -1), (LONG, -LONG, 10)))
            floor = drawn_floor(draw, draw.randint(1, 6), draw.randint(1, 6), 0.3, costs, heights)
            before = told_floor(floor)
            text = show_floor(floor)
            self.assertIsInstance(text, str)
            again = read_floor(text)
            self.assertEqual(told_floor(again), before)
            self.assertEqual(told_floor(floor), before)
            self.assertEqual(show_floor(again), text)
            self.assertEqual(len(text.split("\n")), 1 + len(floor.rows()))

    def test_what_is_no_text(self):
        for thing in NO_TEXTS:
            self.refused(read_floor, thing)

    def test_the_first_row(self):
        for first in ("", "dock", "dock 0", "dock 0 0 0", "Dock 0 0", "dock  0 0", " dock 0 0", "dock 0 0 ", "dock 0  0",
                      "dock\t0 0", "dock 0,0", "0 0", "docks 0 0", "dock 0 0\r", "1", "floor 0 0", "dock # 0"):
            self.refused(read_floor, first + "\n1")
            self.refused(read_floor, first)
        self.refused(read_floor, "\ndock 0 0\n1")
        self.refused(read_floor, "1\ndock 0 0")

    def test_numbers_that_are_not_so_written(self):
        for word in NO_NUMBERS:
            self.refused(read_floor, f"dock {word} 0\n1")
            self.refused(read_floor, f"dock 0 {word}\n1")
            self.refused(read_floor, f"dock 0 0\n1 1:{word}")
            self.refused(read_floor, f"dock 0 0\n1:{word} 1")
            self.refused(read_floor, f"dock 0 0\n{word}:1 1")
            if word != "#":
                self.refused(read_floor, f"dock 0 0\n1 {word}")

    def test_grounds_that_are_not_so_written(self):
        for word in ("1:0", "1:-0", "1:00", "1:", ":", ":1", "1:1:1", "1::1", "#:1", "1:#", "##", "1#", "#1", "1;1", "1 :1", "(1,0)"):
            self.refused(read_floor, f"dock 0 0\n1 {word}")
            self.refused(read_floor, f"dock 0 0\n1\n{word}")

    def test_blanks_and_line_feeds(self):
        for text in ("dock 0 0\n1  1", "dock 0 0\n 1", "dock 0 0\n1 ", "dock 0 0\n", "dock 0 0\n1\n", "dock 0 0\n\n1",
                     "dock 0 0\n1\n\n1", "dock 0 0\n1\t1", "dock 0 0\r\n1", "dock 0 0\n1\r\n1", "", "\n", " ", "dock 0 0 1",
                     "dock 0 0\n \n1"):
            self.refused(read_floor, text)

    def test_what_is_so_written_and_no_floor(self):
        for text in (
            "dock 0 0", "dock 5 5", "dock -1 -1",
            "dock 0 0\n0", "dock 0 0\n-1", "dock 0 0\n1 0", "dock 0 0\n1 -5", "dock 0 0\n1 0:1", "dock 0 0\n1 -7:-7",
            "dock 0 0\n1 1\n1", "dock 0 0\n1\n1 1", "dock 0 0\n1 1\n1 1\n1 1 1",
            "dock 1 0\n1", "dock 0 1\n1", "dock -1 0\n1", "dock 0 -1\n1", "dock 9 9\n1 1\n1 1",
            "dock " + "9" * 60 + " 0\n1", "dock 0 -" + "9" * 60 + "\n1",
            "dock 0 0\n#", "dock 0 1\n1 #", "dock 1 0\n1 1\n# 1",
        ):
            with self.assertRaises(BadFloor, msg=text):
                read_floor(text)

    def test_no_text_goes_ahead_of_no_floor(self):
        for text in ("dock 5 5\n1 x", "dock 0 0\n0 1:0", "dock 0 0\n# \n#", "dock 0 0\n1 1\n1 1 1 01", "dock 0 0\n1\n1 1\n"):
            self.refused(read_floor, text)

    def test_too_many(self):
        row = " ".join(["1"] * 50)
        self.assertEqual(len(read_floor("\n".join(["dock 0 0"] + [row] * 50)).cells()), 2500)
        with self.assertRaises(TooMany):
            read_floor("\n".join(["dock 0 0"] + [row] * 51))
        with self.assertRaises(TooMany):
            read_floor("dock 0 2500\n" + " ".join(["1"] * 2501))
        for text in ("\n".join(["dock 51 0"] + [row] * 51), "\n".join(["dock 0 0"] + [row] * 51 + ["1"]),
                     "\n".join(["dock 0 0"] + [row] * 51 + [row[:-1] + "0"])):
            with self.assertRaises(BadFloor):
                read_floor(text)
        self.refused(read_floor, "\n".join(["dock 0 0"] + [row] * 51 + [""]))


class TestAreas(Texts):
    """[32]"""

    def same(self, one, other):
        self.assertIs(one.__class__, other.__class__)
        self.assertEqual(sorted(vars(one)), sorted(vars(other)))
        if isinstance(one, Box):
            self.assertEqual(vars(one), vars(other))
        elif not isinstance(one, Everywhere):
            for name in vars(one):
                self.same(getattr(one, name), getattr(other, name))

    def test_each_kind(self):
        for area, text in (
            (Everywhere(), "everywhere"),
            (Box(0, 1, 2, 3), "box 0 1 2 3"),
            (Box(-1, -20, 300, LONG), "box -1 -20 300 " + "9" * 60),
            (Box(5, 5, -5, -5), "box 5 5 -5 -5"),
            (Outside(Everywhere()), "outside everywhere"),
            (Both(Everywhere(), Box(1, 2, 3, 4)), "both everywhere box 1 2 3 4"),
            (Either(Box(1, 2, 3, 4), Everywhere()), "either box 1 2 3 4 everywhere"),
            (Both(Outside(Box(0, 1, 0, 1)), Everywhere()), "both outside box 0 1 0 1 everywhere"),
            (Either(Both(Everywhere(), Everywhere()), Either(Box(0, 0, 0, 0), Outside(Everywhere()))),
             "either both everywhere everywhere either box 0 0 0 0 outside everywhere"),
        ):
            self.assertEqual(show_area(area), text)
            self.same(read_area(text), area)

    def test_there_and_back(self):
        draw = random.Random(92)
        for turn in range(300):
            area = drawn_area(draw, draw.randrange(6))
            text = show_area(area)
            self.assertIsInstance(text, str)
            self.same(read_area(text), area)
            self.assertEqual(show_area(read_area(text)), text)

    def test_twelve_deep_and_more(self):
        for deep in (12, 15, 60):
            area = Box(-1, -2, 3, 4)
            for k in range(deep):
                area = (Outside(area), Both(area, Everywhere()), Either(Everywhere(), area))[k % 3]
            self.same(read_area(show_area(area)), area)

    def test_what_is_no_text(self):
        for thing in NO_TEXTS + (Everywhere(),):
            self.refused(read_area, thing)

    def test_words_that_lack_or_are_too_many(self):
        for text in (
            "", " ", "everywhere ", " everywhere", "everywhere everywhere", "everywhere 1", "1 everywhere", "everywhere box",
            "box", "box 1", "box 1 2", "box 1 2 3", "box 1 2 3 4 5", "box 1 2 3 4 ", "box 1 2 3 4 everywhere", "box  1 2 3 4",
            "both", "both everywhere", "both everywhere everywhere everywhere", "both everywhere  everywhere",
            "either", "either everywhere", "either box 1 2 3 4", "either box 1 2 3 everywhere", "either everywhere 1",
            "outside", "outside ", "outside outside", "outside everywhere everywhere", "outside 1", "both 1 2",
            "box everywhere", "box 1 2 everywhere 3", "box box 1 2 3 4 5 6 7", "both both everywhere everywhere",
            "5", "1 2 3 4", "-1", "nowhere", "Everywhere", "EVERYWHERE", "Box 1 2 3 4", "everywhere\n", "\neverywhere",
            "both everywhere\neverywhere", "box\t1 2 3 4", "both, everywhere everywhere", "box 1,2,3,4", "(everywhere)",
            "not everywhere", "and everywhere everywhere", "box # 1 2 3", "box 1:1 2 3 4",
        ):
            self.refused(read_area, text)

    def test_numbers_that_are_not_so_written(self):
        for word in NO_NUMBERS:
            for place in range(4):
                words = ["0", "1", "2", "3"]
                words[place] = word
                self.refused(read_area, " ".join(["box"] + words))

    def test_very_many_words(self):
        for text in ("outside " * 5000 + "x", "both " * 5000 + "everywhere", "everywhere " * 5000 + "everywhere"):
            self.refused(read_area, text)


class TestCharts(Texts):
    """[32]"""

    def test_the_chart_that_knows_nothing(self):
        self.assertEqual(show_chart(Chart()), "")
        chart = read_chart("")
        self.assertIsInstance(chart, Chart)
        self.assertEqual(told(chart), told(Chart()))

    def test_a_chart(self):
        chart = chart_of((DOCK, [(1, 0), (2, 1), None, (3, -1), None]))
        text = "-1 0 2:1\n0 -1 #\n0 0 1 +\n0 1 #\n1 0 3:-1"
        self.assertEqual(show_chart(chart), text)
        self.assertEqual(told(read_chart(text)), told(chart))

    def test_there_and_back(self):
        draw = random.Random(93)
        for turn in range(150):
            costs = draw.choice(((1,), (1, 2, 10, 99), (LONG, LONG - 1)))
            floor = drawn_floor(draw, draw.randint(1, 6), draw.randint(1, 6), 0.3, costs, (0, 0, 1, -1, 12))
            chart = drawn_chart(draw, floor, draw.random())
            before = told(chart)
            text = show_chart(chart)
            again = read_chart(text)
            self.assertEqual(told(again), before)
            self.assertEqual(told(chart), before)
            self.assertEqual(show_chart(again), text)

    def test_far_cells(self):
        far = LONG - 1
        chart = chart_of(((far, -far), [PLAIN] * 5), ((-5, far), [(LONG, -LONG), None, None, None, None]))
        self.assertEqual(told(read_chart(show_chart(chart))), told(chart))

    def test_cells_are_sorted_as_numbers(self):
        floor = plain_floor(1, 13, (0, 0))
        chart = felt_on(floor, floor.cells())
        lines = show_chart(chart).split("\n")
        self.assertEqual([line for line in lines if line.endswith("+")], [f"0 {k} 1 +" for k in range(13)])
        self.assertEqual(told(read_chart("\n".join(lines))), told(chart))

    def test_a_chart_read_can_be_noted_in(self):
        floor = plain_floor(1, 3, (0, 0))
        chart = read_chart(show_chart(felt_on(floor, [DOCK])))
        chart.note((0, 1), floor.felt((0, 1)))
        self.assertEqual(told(chart), told(felt_on(floor, [(0, 0), (0, 1)])))

    def test_what_is_no_text(self):
        for thing in NO_TEXTS:
            self.refused(read_chart, thing)

    def lines(self):
        return ["-1 0 2:1", "0 -1 #", "0 0 1 +", "0 1 #", "1 0 3:-1"]

    def test_a_line_that_is_not_so_written(self):
        for place in range(5):
            line = self.lines()[place]
            for bad in ("", " ", line + " ", " " + line, line + " +", line + " x", line + "+", line.replace(" ", "  ", 1),
                        line.replace(" ", "\t", 1), "+ " + line, line + "\n", line + "\r", line.rpartition(" ")[0],
                        line.replace(" ", ",", 1), line + " + +"):
                lines = self.lines()
                lines[place] = bad
                self.refused(read_chart, "\n".join(lines))
        self.refused(read_chart, "\n".join(self.lines()) + "\n")
        self.refused(read_chart, "\n" + "\n".join(self.lines()))
        self.refused(read_chart, "\n")
        self.refused(read_chart, " ")

    def test_numbers_that_are_not_so_written(self):
        for word in NO_NUMBERS:
            for text in (f"{word} 0 #", f"0 {word} #", f"0 0 {word} +", f"0 0 {word}:1 +", f"0 0 1:{word} +"):
                self.refused(read_chart, "-1 0 #\n0 -1 #\n" + text + "\n0 1 #\n1 0 #")
        self.assertEqual(read_chart("-1 0 #\n0 -1 #\n0 0 1:1 +\n0 1 #\n1 0 #").stood(), [DOCK])

    def test_a_height_of_0_and_a_cost_below_1(self):
        for word in ("1:0", "0", "-1", "0:1", "-5:1", "-" + "9" * 60):
            self.refused(read_chart, f"-1 0 #\n0 -1 #\n0 0 {word} +\n0 1 #\n1 0 #")
            self.refused(read_chart, f"-1 0 {word}\n0 -1 #\n0 0 1 +\n0 1 #\n1 0 #")

    def test_a_cell_twice(self):
        for place in range(5):
            lines = self.lines()
            lines.insert(place, lines[place])
            self.refused(read_chart, "\n".join(lines))
        self.refused(read_chart, "-1 0 2:1\n-1 0 2\n0 -1 #\n0 0 1 +\n0 1 #\n1 0 3:-1")

    def test_out_of_order(self):
        for place in range(4):
            lines = self.lines()
            lines[place], lines[place + 1] = lines[place + 1], lines[place]
            self.refused(read_chart, "\n".join(lines))
        self.refused(read_chart, "\n".join(self.lines()[::-1]))
        self.refused(read_chart, "\n".join(self.lines()[1:] + self.lines()[:1]))

    def test_a_wall_stood_on(self):
        self.refused(read_chart, "-1 0 #\n0 -1 #\n0 0 # +\n0 1 #\n1 0 #")

    def test_one_unknown_beside_a_cell_stood_on(self):
        for place in (0, 1, 3, 4):
            lines = self.lines()
            lines.pop(place)
            self.refused(read_chart, "\n".join(lines))
        self.refused(read_chart, "0 0 1 +")
        lines = self.lines()
        lines[0] += " +"
        self.refused(read_chart, "\n".join(lines))

    def test_a_cell_that_nobody_felt(self):
        self.refused(read_chart, "0 0 1")
        self.refused(read_chart, "0 0 #")
        self.refused(read_chart, "-1 0 2:1\n0 -1 #\n0 0 1\n0 1 #\n1 0 3:-1")
        for line, place in (("-5 0 1", 0), ("-1 -1 #", 0), ("1 1 1", 5), ("9 9 #", 5), ("0 2 #", 4)):
            lines = self.lines()
            lines.insert(place, line)
            self.refused(read_chart, "\n".join(lines))

    def test_a_new_chart_each_time(self):
        text = "\n".join(self.lines())
        first = read_chart(text)
        first.note((50, 50), [PLAIN] * 5)
        self.assertEqual(show_chart(read_chart(text)), text)


if __name__ == "__main__":
    unittest.main()
