"""Tables, whoever wrote them, that show of a cell that no round of the store goes there."""

from dustwalk.cells import DOCK
from dustwalk.distances import open_within
from dustwalk.ways import steps_from


def has_dock(table):
    """Whether a table has the dock with 0 or less."""
    return DOCK in table and table[DOCK] <= 0


def bounded(table, cell, most):
    """Whether a table has a cell with at most a number."""
    return cell in table and table[cell] <= most


def is_out_table(chart, area, table):
    """Whether a table has the dock and bounds the end of each known step whose beginning it has."""
    grounds = open_within(chart, area)
    if not has_dock(table):
        return False
    for cell in grounds:
        for side, near, cost in steps_from(grounds, cell):
            if cell in table and not bounded(table, near, table[cell] + cost):
                return False
    return True


def is_home_table(chart, area, table):
    """Whether a table has the dock and bounds the beginning of each known step whose end it has."""
    grounds = open_within(chart, area)
    if not has_dock(table):
        return False
    for cell in grounds:
        for side, near, cost in steps_from(grounds, cell):
            if near in table and not bounded(table, cell, table[near] + cost):
                return False
    return True


def too_far(chart, area, full, cell, first, second):
    """Whether an out table and a home table show that no round of the store leads to a cell."""
    if not is_out_table(chart, area, first) or not is_home_table(chart, area, second):
        return False
    return cell not in first or cell not in second or first[cell] + second[cell] > full
