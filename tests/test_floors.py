import copy
import itertools
import unittest

from dustwalk.cells import DOCK
from dustwalk.errors import BadFloor, TooMany
from dustwalk.floors import Floor

HUGE = 10 ** 59
PLAIN = (1, 0)


def rows_of(height, width):
    return [[PLAIN] * width for row in range(height)]


def small_rows():
    """ # 1 2:-1 / 3:4 # 5 """
    return [[None, (1, 0), (2, -1)], [(3, 4), None, (5, 0)]]


class TestFloors(unittest.TestCase):
    """[6]"""

    def setUp(self):
        self.floor = Floor(small_rows(), (0, 1))

    def test_rows_and_dock_as_handed_in(self):
        self.assertEqual(self.floor.rows(), small_rows())
        self.assertEqual(self.floor.dock(), (0, 1))
        self.assertEqual(Floor(small_rows(), (1, 2)).dock(), (1, 2))
        self.assertIsInstance(self.floor.dock(), tuple)
        self.assertIsInstance(self.floor.rows(), list)
        for row in self.floor.rows():
            self.assertIsInstance(row, list)

    def test_cells_are_sorted_and_no_walls(self):
        self.assertEqual(self.floor.cells(), [(0, 0), (0, 1), (1, -1), (1, 1)])
        self.assertEqual(Floor(small_rows(), (1, 2)).cells(), [(-1, -1), (-1, 0), (0, -2), (0, 0)])
        self.assertIsInstance(self.floor.cells(), list)

    def test_many_cells_are_sorted(self):
        floor = Floor(rows_of(12, 13), (11, 11))
        self.assertEqual(floor.cells(), list(itertools.product(range(-11, 1), range(-11, 2))))

    def test_grounds_are_told_from_the_dock(self):
        for dock in ((0, 1), (0, 2), (1, 0), (1, 2)):
            floor = Floor(small_rows(), dock)
            self.assertEqual(floor.ground(DOCK), small_rows()[dock[0]][dock[1]])
            for i, j in itertools.product(range(2), range(3)):
                self.assertEqual(floor.ground((i - dock[0], j - dock[1])), small_rows()[i][j])

    def test_cells_beyond_the_rows_are_walls(self):
        floor = Floor(rows_of(2, 3), (1, 1))
        within = list(itertools.product(range(-1, 1), range(-1, 2)))
        for cell in itertools.product(range(-5, 6), repeat=2):
            self.assertEqual(floor.ground(cell), PLAIN if cell in within else None, cell)
        for cell in ((HUGE, 0), (0, HUGE), (-HUGE, 0), (0, -HUGE), (HUGE, -HUGE)):
            self.assertIsNone(floor.ground(cell))

    def test_what_is_felt(self):
        self.assertEqual(self.floor.felt((0, 0)), [(1, 0), None, (2, -1), None, None])
        self.assertEqual(self.floor.felt((0, 1)), [(2, -1), None, None, (5, 0), (1, 0)])
        self.assertEqual(self.floor.felt((1, -1)), [(3, 4), None, None, None, None])
        self.assertEqual(self.floor.felt((1, 1)), [(5, 0), (2, -1), None, None, None])
        self.assertIsInstance(self.floor.felt((0, 0)), list)

    def test_felt_is_in_its_order(self):
        floor = Floor([[None, (2, 0), None], [(5, 0), (1, 0), (3, 0)], [None, (4, 0), None]], (1, 1))
        self.assertEqual(floor.felt(DOCK), [(1, 0), (2, 0), (3, 0), (4, 0), (5, 0)])

    def test_felt_at_walls_and_beyond_the_rows(self):
        self.assertEqual(self.floor.felt((0, -1)), [None, None, (1, 0), (3, 4), None])
        self.assertEqual(self.floor.felt((2, 1)), [None, (5, 0), None, None, None])
        self.assertEqual(self.floor.felt((HUGE, -HUGE)), [None] * 5)

    def test_the_least_floor(self):
        floor = Floor([[(1, 0)]], (0, 0))
        self.assertEqual(floor.cells(), [(0, 0)])
        self.assertEqual(floor.felt(DOCK), [(1, 0), None, None, None, None])

    def test_grounds_with_large_numbers(self):
        floor = Floor([[(HUGE, -HUGE), (1, HUGE)]], (0, 1))
        self.assertEqual(floor.ground((0, -1)), (HUGE, -HUGE))
        self.assertEqual(floor.ground((0, 0)), (1, HUGE))

    def test_only_the_dock_need_be_no_wall(self):
        self.assertEqual(Floor([[None, None], [PLAIN, None]], (1, 0)).cells(), [(0, 0)])


class TestNoFloors(unittest.TestCase):
    """[6], what is refused"""

    def refused(self, rows, dock):
        with self.assertRaises(BadFloor, msg=repr((rows, dock))[:200]):
            Floor(rows, dock)

    def test_rows_of_another_kind(self):
        for rows in (None, "1 1", "", 1, True, {}, {0: [PLAIN]}, ([PLAIN],), (), {1}, 1.5, object()):
            self.refused(rows, (0, 0))

    def test_no_rows(self):
        self.refused([], (0, 0))

    def test_a_row_of_another_kind(self):
        for row in (None, "1", 1, True, (PLAIN,), {0: PLAIN}, {PLAIN}, PLAIN, 1.5, object()):
            self.refused([row], (0, 0))
            self.refused([[PLAIN], row], (0, 0))
            self.refused([row, [PLAIN]], (1, 0))

    def test_rows_without_grounds(self):
        self.refused([[]], (0, 0))
        self.refused([[], []], (0, 0))

    def test_rows_of_several_lengths(self):
        self.refused([[PLAIN], [PLAIN, PLAIN]], (0, 0))
        self.refused([[PLAIN, PLAIN], [PLAIN]], (0, 0))
        self.refused([[PLAIN], [PLAIN], []], (0, 0))
        self.refused([[], [PLAIN]], (1, 0))

    def test_what_is_no_ground(self):
        things = (
            0, 1, True, False, "?", "#", "1", "", 1.0, [], [1, 0], {}, {1: 0}, {1, 0}, object(),
            (), (1,), (1, 0, 0), (0, 0), (-1, 0), (-HUGE, 0),
            (True, 0), (1, False), (1, True), ("1", 0), (1, "0"), (None, 0), (1, None),
            (1.0, 0), (1, 0.0), (1, (0,)), ([1], 0), "12",
        )
        for thing in things:
            self.refused([[PLAIN, thing]], (0, 0))
            self.refused([[PLAIN], [thing]], (0, 0))
            self.refused([[thing]], (0, 0))

    def test_a_dock_of_another_kind(self):
        things = (
            None, 0, True, "00", "0 0", [0, 0], {0: 0}, {0, 1}, (), (0,), (0, 0, 0), 1.5, object(),
            (False, 0), (0, False), (True, 0), (0, True), ("0", 0), (0, "0"), (None, 0), (0, None),
            (0.0, 0), (0, 0.0), ((0,), 0),
        )
        for dock in things:
            self.refused(rows_of(2, 2), dock)

    def test_a_dock_beyond_the_rows(self):
        for dock in ((2, 0), (0, 3), (2, 3), (-1, 0), (0, -1), (-2, -3), (HUGE, 0), (0, HUGE), (-HUGE, 0), (1, 3)):
            self.refused(rows_of(2, 3), dock)

    def test_a_dock_in_a_wall(self):
        self.refused([[None]], (0, 0))
        self.refused([[PLAIN, None], [PLAIN, PLAIN]], (0, 1))
        self.refused([[PLAIN, PLAIN], [None, PLAIN]], (1, 0))

    def test_2500_grounds_are_a_floor(self):
        for height, width in ((50, 50), (1, 2500), (2500, 1), (25, 100), (2, 1250)):
            self.assertEqual(len(Floor(rows_of(height, width), (0, 0)).cells()), 2500)

    def test_more_are_too_many(self):
        for height, width in ((1, 2501), (2501, 1), (50, 51), (51, 50), (61, 41), (100, 100)):
            with self.assertRaises(TooMany):
                Floor(rows_of(height, width), (height - 1, width - 1))

    def test_walls_count_as_grounds(self):
        with self.assertRaises(TooMany):
            Floor([[PLAIN] + [None] * 2500], (0, 0))

    def test_too_many_and_something_else_is_a_bad_floor(self):
        last_bad = rows_of(51, 50)
        last_bad[50][49] = (0, 0)
        wall_at_dock = rows_of(51, 50)
        wall_at_dock[3][4] = None
        uneven = rows_of(51, 50)
        uneven[50].append(PLAIN)
        self.refused(last_bad, (0, 0))
        self.refused(wall_at_dock, (3, 4))
        self.refused(uneven, (0, 0))
        self.refused(rows_of(51, 50) + [()], (0, 0))
        self.refused(rows_of(51, 50) + [[]], (0, 0))
        self.refused(tuple(rows_of(51, 50)), (0, 0))
        for dock in ((51, 0), (0, 50), (-1, 0), (0, -1), [0, 0], None, (True, 0), (0,)):
            self.refused(rows_of(51, 50), dock)


class TestFloorsStay(unittest.TestCase):
    """[2]"""

    def told(self, floor):
        around = itertools.product(range(-4, 5), repeat=2)
        return (floor.rows(), floor.dock(), floor.cells(), [(floor.ground(c), floor.felt(c)) for c in around])

    def test_rows_handed_in_stay_as_they_are(self):
        rows = small_rows()
        inner = list(rows)
        self.told(Floor(rows, (0, 1)))
        self.assertEqual(rows, small_rows())
        for one, other in zip(rows, inner):
            self.assertIs(one, other)

    def test_rows_changed_later_change_no_floor(self):
        rows = small_rows()
        floor = Floor(rows, (0, 1))
        before = copy.deepcopy(self.told(floor))
        rows[0][0] = (7, 7)
        rows[1].append(None)
        self.assertEqual(self.told(floor), before)
        rows.clear()
        self.assertEqual(self.told(floor), before)

    def test_one_row_handed_in_twice(self):
        row = [PLAIN, PLAIN]
        floor = Floor([row, row], (0, 0))
        told = floor.rows()
        told[0][0] = None
        self.assertEqual(told, [[None, PLAIN], [PLAIN, PLAIN]])

    def test_lists_told_are_the_askers_own(self):
        floor = Floor(small_rows(), (0, 1))
        before = copy.deepcopy(self.told(floor))
        floor.rows()[0][1] = None
        floor.rows()[1].clear()
        floor.rows().clear()
        floor.cells().clear()
        floor.felt(DOCK)[0] = None
        self.assertEqual(self.told(floor), before)
        self.assertIsNot(floor.rows(), floor.rows())
        self.assertIsNot(floor.rows()[0], floor.rows()[0])
        self.assertIsNot(floor.cells(), floor.cells())
        self.assertIsNot(floor.felt(DOCK), floor.felt(DOCK))

    def test_the_same_answer_each_time(self):
        floor = Floor(small_rows(), (0, 1))
        self.assertEqual(self.told(floor), self.told(floor))
        self.assertEqual(self.told(floor), self.told(Floor(small_rows(), (0, 1))))


if __name__ == "__main__":
    unittest.main()
