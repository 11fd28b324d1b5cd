"""What several tests need: charts, floors and areas drawn, and costs reckoned by another road."""

import itertools

from dustwalk.areas import Both, Box, Either, Everywhere, Outside
from dustwalk.cells import DOCK, SIDES
from dustwalk.charts import Chart, poured
from dustwalk.floors import Floor

HUGE = 10 ** 59
PLAIN = (1, 0)
MOVES = {"n": (-1, 0), "e": (0, 1), "s": (1, 0), "w": (0, -1)}
AWAY = Box(1, 1, 5, 5)
NO_DOCK_AREAS = (AWAY, Box(1, 0, 0, 0), Outside(Everywhere()), Outside(Box(0, 0, 0, 0)),
                 Both(Everywhere(), AWAY), Either(AWAY, Box(-3, -3, -1, -1)))


def near(cell, side):
    return (cell[0] + MOVES[side][0], cell[1] + MOVES[side][1])


def five(cell):
    return [cell] + [near(cell, side) for side in SIDES]


def subsets(things):
    return itertools.chain.from_iterable(itertools.combinations(things, size) for size in range(len(things) + 1))


def told(chart):
    """All that a chart tells, also of cells round those that it knows."""
    spots = set(itertools.product(range(-4, 5), repeat=2)) | set(chart.known()) | set(chart.stood())
    grounds = [(spot, chart.ground(spot), chart.has_stood(spot)) for spot in sorted(spots)]
    return (chart.known(), chart.open_cells(), chart.stood(), grounds)


def told_floor(floor):
    return (floor.rows(), floor.dock(), floor.cells())


def chart_of(*notes):
    chart = Chart()
    for cell, felt in notes:
        chart.note(cell, felt)
    return chart


def felt_on(floor, cells):
    return chart_of(*[(cell, floor.felt(cell)) for cell in cells])


def plain_floor(height, width, dock):
    return Floor([[PLAIN] * width for row in range(height)], dock)


def drawn_floor(draw, height, width, walls=0.2, costs=(1, 2, 5), heights=(0, 0, 0, 1)):
    """A floor with drawn walls, costs and heights; the dock is drawn, too."""
    dock = (draw.randrange(height), draw.randrange(width))
    rows = [[None if draw.random() < walls and (i, j) != dock else (draw.choice(costs), draw.choice(heights))
             for j in range(width)] for i in range(height)]
    return Floor(rows, dock)


def drawn_chart(draw, floor, part=0.5):
    """What is felt on a drawn part of a floor's cells."""
    return felt_on(floor, [cell for cell in floor.cells() if draw.random() < part])


def drawn_box(draw, reach=4):
    ends = [draw.randint(-reach, reach) for end in range(4)]
    return Box(min(ends[:2]), min(ends[2:]), max(ends[:2]), max(ends[2:]))


def drawn_area(draw, depth=3):
    """An area of any kind, areas in one another up to a depth."""
    kind = draw.randrange(6) if depth > 0 else draw.randrange(2)
    if kind == 0:
        return Everywhere()
    if kind == 1:
        return drawn_box(draw)
    if kind == 2:
        return Outside(drawn_area(draw, depth - 1))
    parts = (drawn_area(draw, depth - 1), drawn_area(draw, depth - 1))
    return Both(*parts) if kind == 3 else Either(*parts)


def drawn_dock_area(draw, depth=3):
    """A drawn area that has the dock."""
    while True:
        area = drawn_area(draw, depth)
        if area.has(DOCK):
            return area


def is_step(one, other):
    """[5], of two grounds, told here once more."""
    if one in (None, "?") or other in (None, "?"):
        return False
    return one[1] >= other[1]


def all_steps(chart, area):
    """All known steps of a chart within an area, as tuples (cell, side, cell, cost)."""
    steps = []
    for cell in chart.known():
        for side in SIDES:
            end = near(cell, side)
            if area.has(cell) and area.has(end) and is_step(chart.ground(cell), chart.ground(end)):
                steps.append((cell, side, end, chart.ground(end)[0]))
    return steps


def lowered(chart, edges):
    """Costs from the dock on, lowered over all edges again and again till nothing is lowered."""
    costs = {DOCK: 0} if chart.ground(DOCK) not in (None, "?") else {}
    going = True
    while going:
        going = False
        for one, other, cost in edges:
            if one in costs and costs[one] + cost < costs.get(other, costs[one] + cost + 1):
                costs[other] = costs[one] + cost
                going = True
    return costs


def slow_outs(chart, area):
    """[13], by another road."""
    return lowered(chart, [(cell, end, cost) for cell, side, end, cost in all_steps(chart, area)])


def slow_homes(chart, area):
    """[13], by another road."""
    return lowered(chart, [(end, cell, cost) for cell, side, end, cost in all_steps(chart, area)])


def walked(chart, area, start, sides):
    """Where a text of sides leads by known steps within an area, and what it costs; fails beyond them."""
    cell, cost = start, 0
    assert chart.ground(start) not in (None, "?") and area.has(start)
    for side in sides:
        end = near(cell, side)
        assert area.has(end) and is_step(chart.ground(cell), chart.ground(end)), (cell, side)
        cell, cost = end, cost + chart.ground(end)[0]
    return (cell, cost)


def slow_sides_let(chart, area, place, left):
    """[17], told here once more."""
    costs = slow_homes(chart, area)
    return [side for cell, side, end, cost in all_steps(chart, area)
            if cell == place and end in costs and left - cost >= costs[end]]


def in_rounds(chart, area, full):
    """The cells to which and home from which ways lead that cost at most a store together."""
    out, home = slow_outs(chart, area), slow_homes(chart, area)
    return {cell for cell in out if cell in home and out[cell] + home[cell] <= full}


def slow_closure(floor, machines, ahead=None):
    """The last of the sets of [20], or of [26] for several machines, tuples (full, area), made round by round."""
    cells, wider = set(), {DOCK}
    while wider != cells:
        cells = wider
        chart = poured(Chart() if ahead is None else ahead, felt_on(floor, sorted(cells)))
        wider = set().union(*[in_rounds(chart, area, full) for full, area in machines])
        assert cells <= wider
    return sorted(cells)


class World:
    """A world that counts what it is asked, on a floor; a step that the floor does not have fails."""

    def __init__(self, floor):
        self.floor = floor
        self.place = DOCK
        self.asked = []
        self.cost = 0

    def feel(self):
        self.asked.append("feel")
        return self.floor.felt(self.place)

    def step(self, side):
        self.asked.append(side)
        end = near(self.place, side)
        assert is_step(self.floor.ground(self.place), self.floor.ground(end)), (self.place, side)
        self.place = end
        self.cost += self.floor.ground(end)[0]

    def steps(self):
        return "".join(word for word in self.asked if word != "feel")

    def asked_rightly(self):
        """feel once at the beginning and once behind each step."""
        wanted = ["feel"]
        for side in self.steps():
            wanted += [side, "feel"]
        return self.asked == wanted


class Turncoat(World):
    """A world that from some feel on tells another cost of the cell where it stands."""

    def __init__(self, floor, feels):
        World.__init__(self, floor)
        self.feels = feels

    def feel(self):
        felt = World.feel(self)
        if self.asked.count("feel") > self.feels:
            felt[0] = (felt[0][0] + 1, felt[0][1])
        return felt


def never():
    raise AssertionError("the world was asked")


def never_step(side):
    raise AssertionError("the world was asked")
