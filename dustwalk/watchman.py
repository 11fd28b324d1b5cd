"""The watchman, who lets only such steps by after which the machine surely comes home."""

from dustwalk.cells import DOCK, is_open
from dustwalk.distances import open_within
from dustwalk.errors import TooMany
from dustwalk.floors import MOST_GROUNDS, Floor
from dustwalk.ways import home_cost, least_costs, steps_from


def steps_let(grounds, homes, place, left):
    """The steps (side, cell, cost) from a place behind which what is left is enough for a way home."""
    return [step for step in steps_from(grounds, place)
            if step[1] in homes and left - step[2] >= homes[step[1]]]


def sides_let(chart, area, place, left):
    """The sides by which the watchman lets a step by, in the order n, e, s, w."""
    grounds = open_within(chart, area)
    homes = least_costs(grounds, home_cost)
    return [step[0] for step in steps_let(grounds, homes, place, left)]


def lets(chart, area, place, left, side):
    """Whether the watchman lets the step by a side by."""
    return side in sides_let(chart, area, place, left)


def shut_floor(chart):
    """The floor in which just the cells that a chart knows as ground are no walls, or TooMany."""
    cells = chart.open_cells()
    top = min([cell[0] for cell in cells])
    bottom = max([cell[0] for cell in cells])
    left = min([cell[1] for cell in cells])
    right = max([cell[1] for cell in cells])
    # Counted ahead of making the rows, as cells may stand any way apart.
    if (bottom - top + 1) * (right - left + 1) > MOST_GROUNDS:
        raise TooMany("the shut floor has at most 2,500 cells")
    rows = []
    for row in range(top, bottom + 1):
        rows.append([open_or_wall(chart, (row, column)) for column in range(left, right + 1)])
    return Floor(rows, (DOCK[0] - top, DOCK[1] - left))


def open_or_wall(chart, cell):
    """The ground of a cell where a chart knows one, else a wall."""
    ground = chart.ground(cell)
    return ground if is_open(ground) else None
