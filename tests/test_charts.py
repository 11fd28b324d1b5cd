import copy
import itertools
import unittest

from dustwalk.cells import DOCK, SIDES, beside
from dustwalk.charts import Chart, poured
from dustwalk.errors import Clash
from dustwalk.floors import Floor
from helpers import HUGE, chart_of, five, subsets, told

FELT = [(1, 0), (2, 1), None, (3, -1), None]


class TestCharts(unittest.TestCase):
    """[7], [8]"""

    def test_a_new_chart_knows_nothing(self):
        chart = Chart()
        self.assertEqual((chart.known(), chart.open_cells(), chart.stood()), ([], [], []))
        for cell in (DOCK, (3, -4), (HUGE, -HUGE)):
            self.assertEqual(chart.ground(cell), "?")
            self.assertIs(chart.has_stood(cell), False)

    def test_two_new_charts_are_two(self):
        one, other = Chart(), Chart()
        one.note(DOCK, FELT)
        self.assertEqual(told(other), told(Chart()))

    def test_noting(self):
        chart = Chart()
        self.assertIsNone(chart.note(DOCK, FELT))
        self.assertEqual(chart.ground((0, 0)), (1, 0))
        self.assertEqual(chart.ground((-1, 0)), (2, 1))
        self.assertIsNone(chart.ground((0, 1)))
        self.assertEqual(chart.ground((1, 0)), (3, -1))
        self.assertIsNone(chart.ground((0, -1)))
        self.assertEqual(chart.ground((1, 1)), "?")
        self.assertEqual(chart.known(), [(-1, 0), (0, -1), (0, 0), (0, 1), (1, 0)])
        self.assertEqual(chart.open_cells(), [(-1, 0), (0, 0), (1, 0)])
        self.assertEqual(chart.stood(), [(0, 0)])
        self.assertIs(chart.has_stood((0, 0)), True)
        for side in SIDES:
            self.assertIs(chart.has_stood(beside(DOCK, side)), False)

    def test_noting_at_other_cells(self):
        for cell in ((5, -9), (-1, -1), (HUGE, -HUGE)):
            chart = chart_of((cell, FELT))
            self.assertEqual([chart.ground(near) for near in five(cell)], FELT)
            self.assertEqual(chart.known(), sorted(five(cell)))
            self.assertEqual(chart.stood(), [cell])

    def test_lists_are_sorted(self):
        floor = Floor([[(1, 0)] * 5 for row in range(5)], (2, 2))
        order = sorted(floor.cells(), key=lambda cell: (cell[1] * 7 + cell[0] * 3) % 11)
        self.assertNotEqual(order, sorted(order))
        chart = chart_of(*[(cell, floor.felt(cell)) for cell in order])
        self.assertEqual(chart.stood(), floor.cells())
        self.assertEqual(chart.open_cells(), floor.cells())
        self.assertEqual(chart.known(), sorted({near for cell in order for near in five(cell)}))
        for lists in (chart.known(), chart.open_cells(), chart.stood()):
            self.assertIsInstance(lists, list)

    def test_noting_the_same_again(self):
        chart = chart_of((DOCK, FELT))
        before = told(chart)
        self.assertIsNone(chart.note(DOCK, list(FELT)))
        self.assertEqual(told(chart), before)

    def test_noting_beside(self):
        chart = chart_of((DOCK, FELT), ((-1, 0), [(2, 1), None, (4, 0), (1, 0), (5, 5)]))
        self.assertEqual(chart.stood(), [(-1, 0), (0, 0)])
        self.assertEqual(chart.ground((-1, 1)), (4, 0))
        self.assertEqual(chart.ground((-1, -1)), (5, 5))
        self.assertEqual(chart.open_cells(), [(-1, -1), (-1, 0), (-1, 1), (0, 0), (1, 0)])
        self.assertEqual(len(chart.known()), 8)

    def test_stood_on_needs_a_noting_there(self):
        chart = chart_of((DOCK, [(1, 0)] * 5))
        self.assertEqual(chart.stood(), [DOCK])
        chart.note((0, 1), [(1, 0)] * 5)
        self.assertEqual(chart.stood(), [DOCK, (0, 1)])

    def test_a_copy_is_a_chart_of_its_own(self):
        chart = chart_of((DOCK, FELT))
        before = told(chart)
        twin = chart.copied()
        self.assertIsInstance(twin, Chart)
        self.assertIsNot(twin, chart)
        self.assertEqual(told(twin), before)
        twin.note((-1, 0), [(2, 1), None, None, (1, 0), None])
        self.assertEqual(told(chart), before)
        after = told(twin)
        self.assertNotEqual(after, before)
        chart.note((1, 0), [(3, -1), (1, 0), (9, 9), None, None])
        self.assertEqual(told(twin), after)
        self.assertEqual(told(Chart().copied()), told(Chart()))

    def test_a_copy_of_a_copy(self):
        chart = chart_of((DOCK, FELT))
        self.assertEqual(told(chart.copied().copied()), told(chart))


class TestClash(unittest.TestCase):
    """[8], refused"""

    def check(self, chart, cell, felt, least):
        before = told(chart)
        handed = list(felt)
        with self.assertRaises(Clash) as caught:
            chart.note(cell, felt)
        self.assertEqual(caught.exception.cell, least)
        self.assertIsInstance(caught.exception.cell, tuple)
        self.assertEqual(told(chart), before)
        self.assertEqual(felt, handed)

    def test_each_of_the_five_places(self):
        for cell in (DOCK, (3, -2)):
            for place in range(5):
                felt = list(FELT)
                felt[place] = (8, 8)
                self.check(chart_of((cell, FELT)), cell, felt, five(cell)[place])

    def test_other_costs_other_heights_walls(self):
        base = [(4, 2)] * 5
        for place, ground in itertools.product(range(1, 5), ((5, 2), (3, 2), (4, 3), (4, 1), (2, 4), None)):
            felt = list(base)
            felt[place] = ground
            self.check(chart_of((DOCK, base)), DOCK, felt, five(DOCK)[place])
            self.check(chart_of((DOCK, felt)), DOCK, base, five(DOCK)[place])

    def test_the_least_of_several(self):
        for places in subsets(range(5)):
            if places:
                felt = [(8, 8) if place in places else ground for place, ground in enumerate(FELT)]
                least = min(five(DOCK)[place] for place in places)
                self.check(chart_of((DOCK, FELT)), DOCK, felt, least)

    def test_a_clash_at_a_cell_not_stood_on_notes_nothing(self):
        for place, cell in enumerate(five((0, 1))):
            chart = chart_of((cell, [(1, 0)] * 5))
            felt = [(1, 0)] * 5
            felt[place] = (2, 0)
            self.check(chart, (0, 1), felt, cell)
            self.assertEqual(chart.stood(), [cell])

    def test_a_wall_found_where_one_stands(self):
        self.check(chart_of((DOCK, FELT)), (0, 1), [(1, 0), None, None, None, (1, 0)], (0, 1))

    def test_behind_a_clash_noting_goes_on(self):
        chart = chart_of((DOCK, FELT))
        self.check(chart, DOCK, [(9, 9)] * 5, (-1, 0))
        chart.note(DOCK, FELT)
        chart.note((1, 0), [(3, -1), (1, 0), None, None, None])
        self.assertEqual(chart.stood(), [DOCK, (1, 0)])


class TestPouring(unittest.TestCase):
    """[9], [10]"""

    def both_orders(self, one, other):
        before = (told(one), told(other))
        first, second = poured(one, other), poured(other, one)
        self.assertEqual(told(first), told(second))
        self.assertEqual((told(one), told(other)), before)
        for chart in (first, second):
            self.assertIsInstance(chart, Chart)
            self.assertIsNot(chart, one)
            self.assertIsNot(chart, other)
        return first

    def test_two_charts(self):
        one = chart_of((DOCK, FELT))
        other = chart_of(((-1, 0), [(2, 1), None, (4, 0), (1, 0), (5, 5)]))
        both = self.both_orders(one, other)
        self.assertEqual(told(both), told(chart_of(
            (DOCK, FELT), ((-1, 0), [(2, 1), None, (4, 0), (1, 0), (5, 5)]))))

    def test_charts_far_from_one_another(self):
        both = self.both_orders(chart_of((DOCK, FELT)), chart_of(((90, -90), FELT)))
        self.assertEqual(both.stood(), [DOCK, (90, -90)])
        self.assertEqual(both.known(), sorted(five(DOCK) + five((90, -90))))
        self.assertEqual([both.ground(near) for near in five((90, -90))], FELT)

    def test_with_itself(self):
        chart = chart_of((DOCK, FELT))
        self.assertEqual(told(self.both_orders(chart, chart)), told(chart))
        self.assertEqual(told(self.both_orders(chart, chart.copied())), told(chart))

    def test_with_an_empty_one(self):
        chart = chart_of((DOCK, FELT))
        self.assertEqual(told(self.both_orders(chart, Chart())), told(chart))
        self.assertEqual(told(self.both_orders(Chart(), Chart())), told(Chart()))

    def test_what_is_noted_later_stays_apart(self):
        more = [(3, -1), (1, 0), (9, 9), None, None]
        for others in (Chart(), chart_of(((0, 5), FELT))):
            for swap in (False, True):
                one, other = chart_of((DOCK, FELT)), others.copied()
                both = poured(other, one) if swap else poured(one, other)
                before = (told(one), told(other), told(both))
                both.note((1, 0), more)
                self.assertEqual((told(one), told(other)), before[:2])
                both = poured(other, one) if swap else poured(one, other)
                one.note((1, 0), more)
                other.note((1, 0), more)
                self.assertEqual(told(both), before[2])

    def test_clash_in_both_orders_with_the_least_cell(self):
        for places in subsets(range(5)):
            if places:
                felt = [(8, 8) if place in places else ground for place, ground in enumerate(FELT)]
                one, other = chart_of((DOCK, FELT), ((0, 7), FELT)), chart_of(((-9, 0), FELT), (DOCK, felt))
                self.clashes(one, other, min(five(DOCK)[place] for place in places))

    def clashes(self, one, other, least):
        before = (told(one), told(other))
        for pair in ((one, other), (other, one)):
            with self.assertRaises(Clash) as caught:
                poured(*pair)
            self.assertEqual(caught.exception.cell, least)
            self.assertIsInstance(caught.exception.cell, tuple)
        self.assertEqual((told(one), told(other)), before)

    def test_a_wall_in_one_and_a_ground_in_the_other(self):
        one = chart_of((DOCK, [(1, 0), None, None, None, None]))
        other = chart_of(((0, 1), [(1, 0), None, None, None, (1, 0)]))
        self.clashes(one, other, (0, 1))

    def test_many_charts_in_any_order(self):
        floor = Floor([[(1, 0), (2, 1)], [None, (3, -1)]], (0, 0))
        charts = [chart_of((cell, floor.felt(cell))) for cell in floor.cells()]
        charts.append(charts[0])
        whole = told(chart_of(*[(cell, floor.felt(cell)) for cell in floor.cells()]))
        for order in itertools.permutations(charts):
            left = right = Chart()
            for chart in order:
                left, right = poured(left, chart), poured(chart, right)
            self.assertEqual(told(left), whole)
            self.assertEqual(told(right), whole)

    def test_many_charts_clash_in_any_order(self):
        charts = [
            chart_of((DOCK, FELT)),
            chart_of(((0, 3), FELT)),
            chart_of(((3, 0), FELT)),
            chart_of((DOCK, FELT[:4] + [(1, 0)])),
        ]
        for order in itertools.permutations(charts):
            with self.assertRaises(Clash) as caught:
                poured(poured(poured(order[0], order[1]), order[2]), order[3])
            self.assertEqual(caught.exception.cell, (0, -1))

    def test_what_was_felt_on_one_floor_never_clashes(self):
        for grounds in itertools.product((None, (1, 0), (1, 1)), repeat=3):
            floor = Floor([[(2, 0), grounds[0]], list(grounds[1:])], (0, 0))
            charts = [chart_of(*[(c, floor.felt(c)) for c in cells]) for cells in subsets(floor.cells())]
            for one, other in itertools.product(charts, repeat=2):
                both = self.both_orders(one, other)
                self.assertEqual(both.stood(), sorted(set(one.stood()) | set(other.stood())))
                self.assertEqual(both.known(), sorted(set(one.known()) | set(other.known())))
                for cell in both.known():
                    self.assertEqual(both.ground(cell), floor.ground(cell))


class TestChartsStay(unittest.TestCase):
    """[2]"""

    def test_felt_handed_in_stays_and_may_change_later(self):
        felt = list(FELT)
        chart = Chart()
        chart.note(DOCK, felt)
        self.assertEqual(felt, FELT)
        before = told(chart)
        felt[0] = (9, 9)
        felt.clear()
        self.assertEqual(told(chart), before)

    def test_lists_told_are_the_askers_own(self):
        chart = chart_of((DOCK, FELT))
        before = copy.deepcopy(told(chart))
        for ask in (chart.known, chart.open_cells, chart.stood):
            self.assertIsNot(ask(), ask())
            ask().append((7, 7))
            ask().clear()
        self.assertEqual(told(chart), before)

    def test_lists_told_stay_when_more_is_noted(self):
        chart = chart_of((DOCK, FELT))
        lists = (chart.known(), chart.open_cells(), chart.stood())
        before = copy.deepcopy(lists)
        chart.note((-1, 0), [(2, 1), (1, 0), (1, 0), (1, 0), (1, 0)])
        self.assertEqual(lists, before)

    def test_asking_changes_nothing(self):
        chart = chart_of((DOCK, FELT))
        before = told(chart)
        chart.ground((50, 50))
        chart.has_stood((50, 50))
        self.assertEqual(told(chart), before)
        self.assertEqual(chart.known(), sorted(five(DOCK)))


if __name__ == "__main__":
    unittest.main()
