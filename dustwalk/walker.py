"""The walker, which cleans all that can be cleaned under the watchman and comes home."""

from dustwalk.cells import DOCK
from dustwalk.charts import Chart
from dustwalk.machines import Machine, go
from dustwalk.reports import Report
from dustwalk.ways import out_way


def nearest_new(machine):
    """The cell not stood on with the least cost from the dock of those in a round, or None.

    Each cell on a least way to it is in a round as well and nearer, so it was stood on before.
    """
    outs = machine.ways.outs
    cells = [cell for cell in machine.ways.rounds(machine.full) if not machine.chart.has_stood(cell)]
    return min(cells, key=lambda cell: (outs[cell], cell), default=None)


def next_side(machine):
    """The side of a new cell that the watchman lets by, the nearest to the dock; else a side home."""
    homes = machine.ways.homes
    fresh = [choice for choice in machine.choices() if not machine.chart.has_stood(choice[1])]
    if len(fresh) == 0:
        return machine.side_home()
    return min(fresh, key=lambda choice: homes[choice[1]])[0]


def walk_round(feel, step, machine, cell):
    """Go out to a cell, and home again by as many new cells as come up on the way."""
    way = out_way(machine.ways.grounds, machine.ways.outs, cell)
    for side in way:
        go(feel, step, machine, side)
    while machine.place != DOCK:
        go(feel, step, machine, next_side(machine))


def clean(feel, step, full, area, chart=None):
    """Clean a floor by a world's two functions; a report, or NoDock, Clash."""
    machine = Machine(full, area, Chart() if chart is None else chart.copied())
    machine.take_up(feel())
    cell = nearest_new(machine)
    while cell is not None:
        walk_round(feel, step, machine, cell)
        cell = nearest_new(machine)
    return report_of(machine)


def report_of(machine):
    """The report of a machine that is home."""
    ways = machine.ways
    left = [cell for cell in sorted(ways.grounds) if not machine.chart.has_stood(cell)]
    return Report(machine.chart, machine.steps_text(), left, ways.outs, ways.homes)
