import itertools
import unittest

from dustwalk.cells import DOCK, SIDES, beside, can_step, is_whole

HUGE = 10 ** 59


class TestWholeNumbers(unittest.TestCase):
    """[2]"""

    def test_ints_are_whole(self):
        for number in (0, 1, -1, 2500, HUGE, -HUGE):
            self.assertIs(is_whole(number), True, number)

    def test_truths_are_not(self):
        self.assertIs(is_whole(True), False)
        self.assertIs(is_whole(False), False)

    def test_other_kinds_are_not(self):
        for thing in (None, "1", "", 1.0, 0.5, (1,), [1], {1: 1}, {1}, b"1", 1j, int, object()):
            self.assertIs(is_whole(thing), False, thing)


class TestSides(unittest.TestCase):
    """[4]"""

    def test_the_names(self):
        self.assertEqual(SIDES, ("n", "e", "s", "w"))
        self.assertIsInstance(SIDES, tuple)
        self.assertEqual(DOCK, (0, 0))
        self.assertIsInstance(DOCK, tuple)

    def test_the_four_sides_of_a_cell(self):
        self.assertEqual(beside((3, 8), "n"), (2, 8))
        self.assertEqual(beside((3, 8), "e"), (3, 9))
        self.assertEqual(beside((3, 8), "s"), (4, 8))
        self.assertEqual(beside((3, 8), "w"), (3, 7))

    def test_across_0_and_below_it(self):
        self.assertEqual([beside(DOCK, side) for side in SIDES], [(-1, 0), (0, 1), (1, 0), (0, -1)])
        self.assertEqual([beside((-1, -1), side) for side in SIDES], [(-2, -1), (-1, 0), (0, -1), (-1, -2)])
        self.assertEqual([beside((-7, -9), side) for side in SIDES], [(-8, -9), (-7, -8), (-6, -9), (-7, -10)])

    def test_very_large_numbers(self):
        cell = (HUGE, -HUGE)
        self.assertEqual(
            [beside(cell, side) for side in SIDES],
            [(HUGE - 1, -HUGE), (HUGE, 1 - HUGE), (HUGE + 1, -HUGE), (HUGE, -HUGE - 1)],
        )

    def test_a_cell_is_a_tuple(self):
        for side in SIDES:
            self.assertIsInstance(beside((5, -5), side), tuple)

    def test_there_and_back(self):
        for cell in itertools.product(range(-2, 3), repeat=2):
            for side, back in ("ns", "sn", "ew", "we"):
                self.assertEqual(beside(beside(cell, side), back), cell)


class TestSteps(unittest.TestCase):
    """[5]"""

    def test_the_same_height(self):
        for height in (0, 4, -4, HUGE, -HUGE):
            self.assertIs(can_step((1, height), (1, height)), True)

    def test_down_but_not_up(self):
        for high, low in ((1, 0), (0, -1), (-1, -2), (9, -9), (HUGE, HUGE - 1), (1 - HUGE, -HUGE)):
            self.assertIs(can_step((1, high), (1, low)), True)
            self.assertIs(can_step((1, low), (1, high)), False)

    def test_the_costs_play_no_part(self):
        for one, other in itertools.product((1, 2, HUGE), repeat=2):
            self.assertIs(can_step((one, 0), (other, 0)), True)
            self.assertIs(can_step((one, 1), (other, 0)), True)
            self.assertIs(can_step((one, 0), (other, 1)), False)

    def test_walls(self):
        for ground in ((1, 0), (1, 5), (1, -5)):
            self.assertIs(can_step(None, ground), False)
            self.assertIs(can_step(ground, None), False)
        self.assertIs(can_step(None, None), False)

    def test_the_unknown(self):
        for ground in (None, (1, 0), (1, 5), (1, -5)):
            self.assertIs(can_step("?", ground), False)
            self.assertIs(can_step(ground, "?"), False)
        self.assertIs(can_step("?", "?"), False)


if __name__ == "__main__":
    unittest.main()
