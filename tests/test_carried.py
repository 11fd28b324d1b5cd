import itertools
import random
import unittest

from dustwalk.carried import fits, moved, parting
from dustwalk.cells import DOCK, SIDES
from dustwalk.charts import Chart
from dustwalk.errors import TooMany
from dustwalk.floors import Floor
from helpers import HUGE, PLAIN, chart_of, drawn_chart, drawn_floor, felt_on, five, is_step, near, plain_floor, told


def known_five(chart, cell):
    return [chart.ground(spot) for spot in five(cell)]


def moved_again(chart, cells, side):
    """[28], told here once more."""
    ends = [near(cell, side) for cell in cells]
    for cell, end in zip(cells, ends):
        if end not in chart.stood() or not is_step(chart.ground(cell), chart.ground(end)):
            return None
    return ends


def parts_of(chart, cells):
    parts = []
    for cell in cells:
        for felt, part in parts:
            if felt == known_five(chart, cell):
                part.append(cell)
                break
        else:
            parts.append((known_five(chart, cell), [cell]))
    return parts


def slow_depth(chart, cells):
    """The least depth, by rounds: what can be parted by one move into what was parted before."""
    start, states, waiting = tuple(cells), {}, [tuple(cells)]
    while waiting:
        state = waiting.pop()
        if state not in states:
            moves = [moved_again(chart, state, side) for side in SIDES]
            states[state] = [[tuple(part) for felt, part in parts_of(chart, ends)]
                             for ends in moves if ends is not None]
            waiting += [part for parts in states[state] for part in parts]
    depths = {state: 0 for state in states if len(state) == 1}
    depth, going = 0, True
    while going and start not in depths:
        depth += 1
        news = [state for state in states if state not in depths
                and any(all(part in depths for part in parts) for parts in states[state])]
        depths.update({state: depth for state in news})
        going = bool(news)
    return depths.get(start)


class TestFits(unittest.TestCase):
    """[27]"""

    def test_a_plain_floor(self):
        floor = plain_floor(4, 4, (1, 1))
        chart = felt_on(floor, floor.cells())
        self.assertEqual(fits(chart, [PLAIN] * 5), [(0, 0), (0, 1), (1, 0), (1, 1)])
        self.assertEqual(fits(chart, [PLAIN, None, PLAIN, PLAIN, PLAIN]), [(-1, 0), (-1, 1)])
        self.assertEqual(fits(chart, [PLAIN, None, PLAIN, PLAIN, None]), [(-1, -1)])
        self.assertEqual(fits(chart, [PLAIN, None, None, None, None]), [])
        self.assertEqual(fits(chart, [(2, 0), PLAIN, PLAIN, PLAIN, PLAIN]), [])
        self.assertEqual(fits(chart, [None] * 5), [])
        self.assertEqual(fits(Chart(), [PLAIN] * 5), [])

    def test_each_of_the_five_counts(self):
        felt = [(1, 0), (2, 1), None, (3, -1), None]
        chart = chart_of((DOCK, felt), ((9, 9), felt))
        self.assertEqual(fits(chart, list(felt)), [DOCK, (9, 9)])
        for place, ground in itertools.product(range(5), ((1, 1), (2, 0), (7, 7), None)):
            other = list(felt)
            other[place] = ground
            self.assertEqual(fits(chart, other), [DOCK, (9, 9)] if other == felt else [])

    def test_cells_not_stood_on_never_fit(self):
        floor = plain_floor(3, 3, (1, 1))
        chart = felt_on(floor, [cell for cell in floor.cells() if cell != DOCK])
        self.assertEqual([chart.ground(spot) for spot in five(DOCK)], [PLAIN] * 5)
        self.assertEqual(fits(chart, [PLAIN] * 5), [])

    def test_drawn_charts(self):
        draw = random.Random(81)
        for turn in range(60):
            floor = drawn_floor(draw, 5, 5, 0.3, (1,), (0,))
            chart = drawn_chart(draw, floor, 0.7)
            before = told(chart)
            for cell in floor.cells():
                felt = floor.felt(cell)
                wanted = [spot for spot in chart.stood() if floor.felt(spot) == felt]
                answer = fits(chart, felt)
                self.assertEqual(answer, wanted)
                self.assertIsInstance(answer, list)
                self.assertEqual(felt, floor.felt(cell))
                answer.append(DOCK)
                self.assertEqual(fits(chart, felt), wanted)
            self.assertEqual(told(chart), before)


class TestMoved(unittest.TestCase):
    """[28]"""

    def test_each_side(self):
        floor = plain_floor(5, 5, (2, 2))
        chart = felt_on(floor, floor.cells())
        cells = [(1, 1), (0, 0), (-1, 0)]
        self.assertEqual(moved(chart, cells, "n"), [(0, 1), (-1, 0), (-2, 0)])
        self.assertEqual(moved(chart, cells, "e"), [(1, 2), (0, 1), (-1, 1)])
        self.assertEqual(moved(chart, cells, "s"), [(2, 1), (1, 0), (0, 0)])
        self.assertEqual(moved(chart, cells, "w"), [(1, 0), (0, -1), (-1, -1)])
        self.assertEqual(cells, [(1, 1), (0, 0), (-1, 0)])

    def test_none_where_one_of_them_cannot(self):
        floor = plain_floor(1, 4, (0, 0))
        chart = felt_on(floor, floor.cells())
        self.assertIsNone(moved(chart, [(0, 1), (0, 3)], "e"))
        self.assertIsNone(moved(chart, [(0, 3), (0, 1)], "e"))
        self.assertIsNone(moved(chart, [(0, 0)], "n"))
        self.assertEqual(moved(chart, [(0, 1), (0, 2)], "e"), [(0, 2), (0, 3)])

    def test_no_cells(self):
        for chart in (Chart(), chart_of((DOCK, [PLAIN] * 5))):
            for side in SIDES:
                self.assertEqual(moved(chart, [], side), [])

    def test_a_cell_twice(self):
        floor = plain_floor(1, 3, (0, 0))
        chart = felt_on(floor, floor.cells())
        self.assertEqual(moved(chart, [(0, 1), (0, 0), (0, 1)], "e"), [(0, 2), (0, 1), (0, 2)])

    def test_not_to_cells_that_were_not_stood_on(self):
        floor = plain_floor(1, 3, (0, 0))
        chart = felt_on(floor, [(0, 0), (0, 1)])
        self.assertEqual(chart.ground((0, 2)), PLAIN)
        self.assertIsNone(moved(chart, [(0, 1)], "e"))
        self.assertEqual(moved(chart, [(0, 0)], "e"), [(0, 1)])

    def test_not_up(self):
        floor = Floor([[(1, 0), (1, 1)]], (0, 0))
        chart = felt_on(floor, floor.cells())
        self.assertIsNone(moved(chart, [(0, 0)], "e"))
        self.assertEqual(moved(chart, [(0, 1)], "w"), [(0, 0)])

    def test_drawn_charts(self):
        draw = random.Random(82)
        for turn in range(100):
            floor = drawn_floor(draw, 5, 5, 0.1, (1, 2), (0, 0, 0, 1))
            chart = drawn_chart(draw, floor, 0.8)
            if chart.stood():
                cells = [draw.choice(chart.stood()) for k in range(draw.randrange(4))]
                for side in SIDES:
                    answer = moved(chart, cells, side)
                    self.assertEqual(answer, moved_again(chart, cells, side))
                    if answer is not None:
                        answer.append(DOCK)
                        self.assertEqual(moved(chart, cells, side), moved_again(chart, cells, side))


class TestParting(unittest.TestCase):
    """[29], [30]"""

    def depth_of(self, chart, cells, tree):
        """The depth of a tree that parts some cells, and is told as it should be."""
        self.assertIsInstance(tree, tuple)
        if len(cells) == 1:
            self.assertEqual(tree, cells[0])
            return 0
        side, branches = tree
        self.assertIn(side, SIDES)
        self.assertIsInstance(branches, list)
        ends = moved_again(chart, cells, side)
        self.assertIsNotNone(ends)
        parts = parts_of(chart, ends)
        self.assertEqual([branch[0] for branch in branches], [felt for felt, part in parts])
        depths = []
        for branch, (felt, part) in zip(branches, parts):
            self.assertIsInstance(branch, tuple)
            self.assertIsInstance(branch[0], list)
            self.assertEqual(len(branch), 2)
            depths.append(self.depth_of(chart, part, branch[1]))
        return 1 + max(depths)

    def walk(self, chart, start, tree):
        """Where a machine that stands on a cell is told to stand, and where it stands."""
        while not (isinstance(tree[0], int) and isinstance(tree[1], int)):
            start = near(start, tree[0])
            tree = [below for felt, below in tree[1] if felt == known_five(chart, start)][0]
        return tree, start

    def check(self, chart, cells):
        handed, before = list(cells), told(chart)
        answer = parting(chart, handed)
        self.assertEqual((handed, told(chart)), (cells, before))
        wanted = slow_depth(chart, cells)
        if wanted is None:
            self.assertIsNone(answer)
            return None
        self.assertIsInstance(answer, tuple)
        depth, tree = answer
        self.assertEqual(depth, wanted)
        self.assertEqual(self.depth_of(chart, cells, tree), depth)
        for cell in cells:
            end = self.walk(chart, cell, tree)
            self.assertEqual(end[0], end[1])
        self.assertEqual(parting(chart, handed), answer)
        return depth

    def test_one_cell(self):
        floor = plain_floor(2, 2, (0, 0))
        chart = felt_on(floor, floor.cells())
        for cell in floor.cells():
            self.assertEqual(parting(chart, [cell]), (0, cell))
        self.assertEqual(parting(chart_of((DOCK, [PLAIN] * 5)), [DOCK]), (0, DOCK))

    def test_two_cells_of_a_row(self):
        floor = plain_floor(1, 4, (0, 0))
        chart = felt_on(floor, floor.cells())
        depth, tree = parting(chart, [(0, 1), (0, 2)])
        self.assertEqual(depth, 1)
        self.assertIn(tree, (
            ("e", [([PLAIN, None, PLAIN, None, PLAIN], (0, 2)), ([PLAIN, None, None, None, PLAIN], (0, 3))]),
            ("w", [([PLAIN, None, PLAIN, None, None], (0, 0)), ([PLAIN, None, PLAIN, None, PLAIN], (0, 1))]),
        ))

    def test_the_order_of_the_branches_is_that_of_the_cells(self):
        floor = plain_floor(1, 4, (0, 0))
        chart = felt_on(floor, floor.cells())
        self.assertEqual(self.check(chart, [(0, 1), (0, 2)]), 1)
        self.assertEqual(self.check(chart, [(0, 2), (0, 1)]), 1)
        branches = parting(chart, [(0, 2), (0, 1)])[1][1]
        self.assertGreater(branches[0][1], branches[1][1])

    def test_none_where_none_parts(self):
        floor = Floor([[PLAIN, PLAIN, None, PLAIN, PLAIN]], (0, 0))
        chart = felt_on(floor, floor.cells())
        self.assertIsNone(parting(chart, [(0, 0), (0, 3)]))
        self.assertIsNone(parting(chart, [(0, 4), (0, 1)]))
        lone = Floor([[PLAIN, None, PLAIN]], (0, 0))
        self.assertIsNone(parting(felt_on(lone, lone.cells()), [(0, 0), (0, 2)]))

    def test_none_where_what_would_part_was_not_stood_on(self):
        floor = plain_floor(1, 6, (0, 0))
        self.assertIsNone(self.check(felt_on(floor, [(0, 2), (0, 3)]), [(0, 2), (0, 3)]))
        self.assertEqual(self.check(felt_on(floor, floor.cells()), [(0, 2), (0, 3)]), 2)

    def test_none_where_the_way_leads_up(self):
        # Two pits: out of them nobody comes.
        floor = Floor([[(1, 1), (1, 0), (1, 1), (1, 0), (1, 1)]], (0, 0))
        chart = felt_on(floor, floor.cells())
        self.assertIsNone(self.check(chart, [(0, 1), (0, 3)]))
        level = plain_floor(1, 5, (0, 0))
        self.assertEqual(self.check(felt_on(level, level.cells()), [(0, 1), (0, 3)]), 1)

    def test_a_branch_of_one_and_one_of_more(self):
        floor = plain_floor(1, 8, (0, 0))
        chart = felt_on(floor, floor.cells())
        self.assertEqual(self.check(chart, [(0, 1), (0, 3), (0, 5)]), 3)
        self.assertEqual(self.check(chart, [(0, k) for k in range(1, 7)]), 5)

    def test_two_to_eight_cells_of_a_plain_floor(self):
        draw = random.Random(83)
        floor = plain_floor(7, 8, (3, 3))
        chart = felt_on(floor, floor.cells())
        within = fits(chart, [PLAIN] * 5)
        for count in range(2, 9):
            self.check(chart, draw.sample(within, count))

    def test_drawn_floors(self):
        draw = random.Random(84)
        depths, nones = set(), 0
        for turn in range(150):
            floor = drawn_floor(draw, draw.randint(2, 7), draw.randint(2, 7), 0.25, (1,), (0, 0, 0, 0, 0, 1))
            chart = drawn_chart(draw, floor, draw.choice((0.8, 1)))
            for cell in chart.stood():
                cells = fits(chart, floor.felt(cell))[:8]
                if cells[0] == cell and len(cells) > 1:
                    draw.shuffle(cells)
                    depth = self.check(chart, cells)
                    nones += depth is None
                    depths.add(depth)
        self.assertGreater(nones, 5)
        self.assertLessEqual({1, 2, 3}, depths)

    def test_a_deep_tree(self):
        floor = plain_floor(1, 200, (0, 0))
        chart = felt_on(floor, floor.cells())
        answer = parting(chart, [(0, 99), (0, 100)])
        self.assertEqual(answer[0], 99)
        self.assertEqual(self.depth_of(chart, [(0, 99), (0, 100)], answer[1]), 99)

    def test_lists_within_are_new_and_the_askers_own(self):
        floor = plain_floor(1, 8, (0, 0))
        chart = felt_on(floor, floor.cells())
        wanted = parting(chart, [(0, 1), (0, 3), (0, 5)])
        first = parting(chart, [(0, 1), (0, 3), (0, 5)])
        first[1][1][0][0].clear()
        first[1][1].clear()
        self.assertEqual(parting(chart, [(0, 1), (0, 3), (0, 5)]), wanted)

    def test_nine_cells_are_too_many(self):
        floor = plain_floor(5, 5, (2, 2))
        chart = felt_on(floor, floor.cells())
        within = fits(chart, [PLAIN] * 5)
        self.assertEqual(len(within), 9)
        self.assertIsNotNone(parting(chart, within[:8]))
        for cells in (within, within + within, [DOCK] * 9, floor.cells()):
            with self.assertRaises(TooMany):
                parting(chart, cells)

    def test_more_than_two_hundred_stood_on_are_too_many(self):
        for height, width in ((10, 20), (1, 200)):
            floor = plain_floor(height, width, (0, 0))
            chart = felt_on(floor, floor.cells())
            self.assertEqual(parting(chart, [DOCK]), (0, DOCK))
        for height, width in ((3, 67), (1, 201), (15, 15)):
            floor = plain_floor(height, width, (0, 0))
            chart = felt_on(floor, floor.cells())
            for cells in ([DOCK], [], floor.cells()[:2], floor.cells()[:9]):
                with self.assertRaises(TooMany):
                    parting(chart, cells)

    def test_known_cells_that_were_not_stood_on_do_not_count(self):
        floor = plain_floor(20, 20, (0, 0))
        chart = felt_on(floor, floor.cells()[:200])
        self.assertGreater(len(chart.open_cells()), 200)
        self.assertEqual(parting(chart, [DOCK]), (0, DOCK))

    def test_cells_far_apart(self):
        lone = [PLAIN, None, None, None, None]
        far = (HUGE, -HUGE)
        chart = chart_of((DOCK, lone), (far, lone))
        self.assertEqual(fits(chart, lone), [DOCK, far])
        self.assertIsNone(parting(chart, [DOCK, far]))


if __name__ == "__main__":
    unittest.main()
