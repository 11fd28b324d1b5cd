"""The closure of a floor: the cells that a machine under the watchman can come to stand on."""

from dustwalk.cells import DOCK, around
from dustwalk.charts import Chart
from dustwalk.ways import Ways, home_way, out_way


def felt_from(floor, cells):
    """A chart of what a machine would have felt that stood on just these cells of a floor."""
    chart = Chart()
    for cell in cells:
        chart.note(cell, floor.felt(cell))
    return chart


def closure(floor, area, full, chart=None):
    """The closure of a floor within an area for a store, with a chart known ahead, sorted."""
    ways = Ways(area)
    known = Chart() if chart is None else chart.copied()
    ways.learn(known, known.known())
    reached = {}
    fresh = [DOCK]
    while len(fresh) > 0:
        for cell in fresh:
            reached[cell] = True
            known.note(cell, floor.felt(cell))
            ways.learn(known, around(cell))
        fresh = [cell for cell in ways.rounds(full) if cell not in reached]
    return sorted(reached)


def round_trip(chart, area, full, cell):
    """The sides of ways from the dock to a cell and home that cost at most the store, or None."""
    ways = Ways(area)
    ways.learn(chart, chart.known())
    if not ways.in_round(cell, full):
        return None
    return out_way(ways.grounds, ways.outs, cell) + home_way(ways.grounds, ways.homes, cell)
