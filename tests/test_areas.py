import itertools
import random
import unittest

from dustwalk import areas
from dustwalk.areas import Area, Both, Box, Either, Everywhere, Outside
from dustwalk.cells import DOCK
from dustwalk.charts import Chart
from dustwalk.distances import homes, known_steps, outs, way_home, way_out
from dustwalk.errors import NoDock
from dustwalk.tables import is_home_table, is_out_table, too_far
from dustwalk.watchman import lets, sides_let
from helpers import HUGE, NO_DOCK_AREAS, chart_of, drawn_area, felt_on, plain_floor

FAR = 10 ** 30
SPOTS = list(itertools.product(range(-6, 7), repeat=2))


def cells_of(area):
    return [cell for cell in SPOTS if area.has(cell)]


class TestKinds(unittest.TestCase):
    """[11]"""

    def test_each_stands_straight_under_area(self):
        for name in ("Everywhere", "Box", "Both", "Either", "Outside"):
            self.assertEqual(getattr(areas, name).__bases__, (Area,), name)

    def test_the_fields(self):
        box = Box(-1, 2, 3, 4)
        self.assertEqual((box.top, box.left, box.bottom, box.right), (-1, 2, 3, 4))
        one, other = Everywhere(), Box(0, 0, 0, 0)
        for kind in (Both, Either):
            area = kind(one, other)
            self.assertIs(area.one, one)
            self.assertIs(area.other, other)
        self.assertIs(Outside(other).one, other)
        self.assertIsInstance(Everywhere(), Area)

    def test_everywhere(self):
        for cell in SPOTS + [(FAR, -FAR), (HUGE, HUGE), (-HUGE, 0)]:
            self.assertIs(Everywhere().has(cell), True)

    def test_a_box_at_and_about_its_ends(self):
        box = Box(-2, 1, 3, 4)
        wanted = [cell for cell in SPOTS if cell[0] in (-2, -1, 0, 1, 2, 3) and cell[1] in (1, 2, 3, 4)]
        self.assertEqual(cells_of(box), wanted)
        for cell in SPOTS:
            self.assertIs(box.has(cell), cell in wanted)

    def test_a_box_of_one_cell(self):
        self.assertEqual(cells_of(Box(0, 0, 0, 0)), [(0, 0)])
        self.assertEqual(cells_of(Box(-3, 5, -3, 5)), [(-3, 5)])

    def test_boxes_of_a_row_and_of_a_column(self):
        self.assertEqual(cells_of(Box(2, -1, 2, 1)), [(2, -1), (2, 0), (2, 1)])
        self.assertEqual(cells_of(Box(-1, 2, 1, 2)), [(-1, 2), (0, 2), (1, 2)])

    def test_boxes_without_cells(self):
        for box in (Box(1, 0, 0, 0), Box(0, 1, 0, 0), Box(5, -5, -5, 5), Box(-5, 5, 5, -5), Box(FAR, 0, -FAR, 0)):
            self.assertEqual(cells_of(box), [])
            self.assertEqual(cells_of(Outside(box)), SPOTS)

    def test_boxes_with_far_ends(self):
        wide = Box(-FAR, -FAR, FAR, FAR)
        for row, column in itertools.product((-FAR, -1, 0, FAR), repeat=2):
            self.assertIs(wide.has((row, column)), True)
        for cell in ((-FAR - 1, 0), (FAR + 1, 0), (0, -FAR - 1), (0, FAR + 1), (HUGE, -HUGE)):
            self.assertIs(wide.has(cell), False)
        spot = Box(FAR, -FAR, FAR, -FAR)
        self.assertIs(spot.has((FAR, -FAR)), True)
        for cell in ((FAR - 1, -FAR), (FAR + 1, -FAR), (FAR, -FAR - 1), (FAR, 1 - FAR), DOCK):
            self.assertIs(spot.has(cell), False)

    def test_both_either_outside(self):
        one, other = Box(-2, -2, 1, 1), Box(0, 0, 4, 3)
        here, there = set(cells_of(one)), set(cells_of(other))
        self.assertEqual(set(cells_of(Both(one, other))), here & there)
        self.assertEqual(set(cells_of(Both(other, one))), here & there)
        self.assertEqual(set(cells_of(Either(one, other))), here | there)
        self.assertEqual(set(cells_of(Either(other, one))), here | there)
        self.assertEqual(set(cells_of(Outside(one))), set(SPOTS) - here)
        for area in (Both(one, other), Either(one, other), Outside(one), Everywhere(), one):
            for cell in SPOTS:
                self.assertIsInstance(area.has(cell), bool)

    def test_both_and_either_of_one_area(self):
        box = Box(-1, -1, 1, 1)
        self.assertEqual(cells_of(Both(box, box)), cells_of(box))
        self.assertEqual(cells_of(Either(box, box)), cells_of(box))
        self.assertEqual(cells_of(Both(box, Outside(box))), [])
        self.assertEqual(cells_of(Either(box, Outside(box))), SPOTS)
        self.assertEqual(cells_of(Outside(Everywhere())), [])

    def test_areas_in_one_another_twelve_deep(self):
        area = Box(-1, -1, 1, 1)
        wanted = set(cells_of(area))
        for depth in range(12):
            box = Box(-depth, 0, 2, depth % 5)
            within = set(cells_of(box))
            if depth % 3 == 0:
                area, wanted = Either(area, box), wanted | within
            elif depth % 3 == 1:
                area, wanted = Outside(area), set(SPOTS) - wanted
            else:
                area, wanted = Both(Outside(box), area), wanted - within
            self.assertEqual(set(cells_of(area)), wanted)
        twice = Box(0, 0, 0, 0)
        for depth in range(12):
            twice = Outside(twice)
        self.assertEqual(cells_of(twice), [(0, 0)])

    def test_drawn_areas_against_sets(self):
        def as_set(area):
            if isinstance(area, Everywhere):
                return set(SPOTS)
            if isinstance(area, Box):
                return {(r, c) for r, c in SPOTS if area.top <= r <= area.bottom and area.left <= c <= area.right}
            if isinstance(area, Outside):
                return set(SPOTS) - as_set(area.one)
            parts = (as_set(area.one), as_set(area.other))
            return parts[0] & parts[1] if isinstance(area, Both) else parts[0] | parts[1]

        draw = random.Random(11)
        for turn in range(60):
            area = drawn_area(draw, 5)
            self.assertEqual(set(cells_of(area)), as_set(area))
            self.assertEqual(set(cells_of(area)), as_set(area))


class TestNoDock(unittest.TestCase):
    """[11], refused"""

    def test_every_question_about_ways(self):
        floor = plain_floor(3, 3, (1, 1))
        for chart in (Chart(), felt_on(floor, floor.cells()), chart_of((DOCK, floor.felt(DOCK)))):
            for area in NO_DOCK_AREAS:
                for ask in (
                    lambda: known_steps(chart, area, DOCK),
                    lambda: known_steps(chart, area, (1, 1)),
                    lambda: outs(chart, area),
                    lambda: homes(chart, area),
                    lambda: way_out(chart, area, DOCK),
                    lambda: way_home(chart, area, (1, 1)),
                    lambda: is_out_table(chart, area, {}),
                    lambda: is_home_table(chart, area, {}),
                    lambda: is_out_table(chart, area, {DOCK: 0}),
                    lambda: is_home_table(chart, area, {DOCK: 0}),
                    lambda: too_far(chart, area, 5, (1, 1), {}, {}),
                    lambda: too_far(chart, area, 5, (1, 1), {DOCK: 0}, {DOCK: 0}),
                    lambda: lets(chart, area, DOCK, 5, "n"),
                    lambda: lets(chart, area, (1, 1), 5, "n"),
                    lambda: sides_let(chart, area, DOCK, 5),
                ):
                    with self.assertRaises(NoDock):
                        ask()

    def test_areas_with_the_dock_alone_are_taken(self):
        floor = plain_floor(3, 3, (1, 1))
        chart = felt_on(floor, floor.cells())
        for area in (Box(0, 0, 0, 0), Outside(Outside(Box(0, 0, 0, 0))), Both(Everywhere(), Box(0, 0, 0, 0))):
            self.assertEqual(outs(chart, area), {DOCK: 0})
            self.assertEqual(homes(chart, area), {DOCK: 0})
            self.assertEqual(sides_let(chart, area, DOCK, 99), [])


if __name__ == "__main__":
    unittest.main()
