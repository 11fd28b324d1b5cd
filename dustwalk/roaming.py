"""Roaming: steps that another picks, as the watchman lets them by."""

from dustwalk.cells import DOCK
from dustwalk.charts import Chart
from dustwalk.machines import Machine, go


def side_of_turn(machine, pick):
    """The side picked, where it is let by; else the first one of a way home, or None at the dock."""
    sides = [choice[0] for choice in machine.choices()]
    # The picker's list is its own: what it does to it must let no other step by.
    picked = pick(list(sides))
    if picked in sides:
        return picked
    return None if machine.place == DOCK else machine.side_home()


def roam(feel, step, full, area, pick, turns):
    """Roam for some turns; a tuple of the chart, the steps made and what is left then."""
    machine = Machine(full, area, Chart())
    machine.take_up(feel())
    for turn in range(turns):
        side = side_of_turn(machine, pick)
        if side is not None:
            go(feel, step, machine, side)
    return (machine.chart, machine.steps_text(), machine.left)
