"""Ways over the grounds known within an area, and the least costs of those from and to the dock."""

from dustwalk.areas import need_dock
from dustwalk.cells import DOCK, OPPOSITE, SIDES, beside, can_step, is_open
from dustwalk.heaps import pop_least, push


def open_of(chart, area, cells):
    """A dict from those of some cells that a chart knows as ground and an area has, to their grounds."""
    grounds = {}
    for cell in cells:
        if is_open(chart.ground(cell)) and area.has(cell):
            grounds[cell] = chart.ground(cell)
    return grounds


def steps_from(grounds, cell):
    """The steps from a cell over grounds, as tuples (side, cell, cost), in the order of the sides."""
    steps = []
    if cell in grounds:
        for side in SIDES:
            near = beside(cell, side)
            if near in grounds and can_step(grounds[cell], grounds[near]):
                steps.append((side, near, grounds[near][0]))
    return steps


def out_cost(ground, near):
    """What a way from the dock to a ground costs more where it goes on to the one near it, or None."""
    return near[0] if can_step(ground, near) else None


def home_cost(ground, near):
    """What a way home from a ground costs more where it begins at the one near it, or None."""
    return ground[0] if can_step(near, ground) else None


def lower(least, heap, cell, cost):
    """Give a cell a cost where it has none or a greater one."""
    if cell not in least or cost < least[cell]:
        least[cell] = cost
        push(heap, (cost, cell))


def lower_by_step(grounds, least, heap, one, other, cost_of):
    """Give a cell the cost that comes of one beside it by a step, where that is less than its own."""
    cost = cost_of(grounds[one], grounds[other])
    if cost is not None:
        lower(least, heap, other, least[one] + cost)


def spread(grounds, least, heap, cost_of):
    """Lower costs by steps from the cells in the heap, the least first, till no step lowers one."""
    while len(heap) > 0:
        entry = pop_least(heap)
        cell = entry[1]
        # A cell that was lowered twice stands in the heap twice; the greater entry is out of date.
        if entry[0] == least[cell]:
            for side in SIDES:
                near = beside(cell, side)
                if near in grounds:
                    lower_by_step(grounds, least, heap, cell, near, cost_of)


def settle(grounds, least, news, cost_of):
    """Bring least costs, right without some cells of the grounds, up to date with these, too."""
    heap = []
    for cell in news:
        if cell == DOCK:
            lower(least, heap, DOCK, 0)
        for side in SIDES:
            near = beside(cell, side)
            if near in least:
                lower_by_step(grounds, least, heap, near, cell, cost_of)
    spread(grounds, least, heap, cost_of)


def least_costs(grounds, cost_of):
    """A dict with the least cost for each cell that has one; cost_of tells which way is asked for."""
    least = {}
    settle(grounds, least, list(grounds), cost_of)
    return least


def last_side(grounds, outs, cell):
    """The side by which a least way from the dock comes to a cell other than the dock."""
    for side in SIDES:
        back = beside(cell, OPPOSITE[side])
        if back in outs and can_step(grounds[back], grounds[cell]) and outs[back] + grounds[cell][0] == outs[cell]:
            return side
    return None


def first_side(grounds, homes, cell):
    """The side by which a least way home leaves a cell other than the dock."""
    for side, near, cost in steps_from(grounds, cell):
        if near in homes and homes[near] + cost == homes[cell]:
            return side
    return None


def out_way(grounds, outs, cell):
    """The sides of a least way from the dock to a cell, or None."""
    if cell not in outs:
        return None
    sides = []
    while cell != DOCK:
        side = last_side(grounds, outs, cell)
        sides.append(side)
        cell = beside(cell, OPPOSITE[side])
    return "".join(reversed(sides))


def home_way(grounds, homes, cell):
    """The sides of a least way home from a cell, or None."""
    if cell not in homes:
        return None
    sides = []
    while cell != DOCK:
        side = first_side(grounds, homes, cell)
        sides.append(side)
        cell = beside(cell, side)
    return "".join(sides)


class Ways:
    """The grounds learned within an area, with the least costs out and home kept up to date."""

    def __init__(self, area):
        need_dock(area)
        self.area = area
        self.grounds = {}
        self.outs = {}
        self.homes = {}

    def learn(self, chart, cells):
        """Take up what a chart knows of some cells."""
        news = open_of(chart, self.area, [cell for cell in cells if cell not in self.grounds])
        self.grounds.update(news)
        settle(self.grounds, self.outs, list(news), out_cost)
        settle(self.grounds, self.homes, list(news), home_cost)

    def in_round(self, cell, full):
        """Whether ways lead to a cell and home from it that cost at most a store together."""
        return cell in self.outs and cell in self.homes and self.outs[cell] + self.homes[cell] <= full

    def rounds(self, full):
        """The cells to which and home from which such ways lead."""
        return [cell for cell in self.outs if self.in_round(cell, full)]
