"""Known steps of a chart within an area, and the ways from the dock and home to it."""

from dustwalk.areas import need_dock
from dustwalk.cells import around
from dustwalk.ways import home_cost, home_way, least_costs, open_of, out_cost, out_way, steps_from


def open_within(chart, area):
    """A dict from the cells of an area that a chart knows as ground to their grounds, or NoDock."""
    need_dock(area)
    return open_of(chart, area, chart.known())


def known_steps(chart, area, cell):
    """The known steps from a cell, as tuples (side, cell, cost), in the order n, e, s, w."""
    need_dock(area)
    return steps_from(open_of(chart, area, around(cell)), cell)


def outs(chart, area):
    """A dict with the least cost of a way from the dock, for each cell to which one leads."""
    return least_costs(open_within(chart, area), out_cost)


def homes(chart, area):
    """A dict with the least cost of a way to the dock, for each cell from which one leads."""
    return least_costs(open_within(chart, area), home_cost)


def way_out(chart, area, cell):
    """The sides of a way of the least cost from the dock to a cell, or None."""
    grounds = open_within(chart, area)
    return out_way(grounds, least_costs(grounds, out_cost), cell)


def way_home(chart, area, cell):
    """The sides of a way of the least cost from a cell to the dock, or None."""
    grounds = open_within(chart, area)
    return home_way(grounds, least_costs(grounds, home_cost), cell)
