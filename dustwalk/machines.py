"""A machine at work in a world, under the watchman."""

from dustwalk.cells import DOCK, around, beside
from dustwalk.watchman import steps_let
from dustwalk.ways import Ways, first_side


class Machine:
    """Where a machine stands, what it has left, what it knows, and the steps that it made."""

    def __init__(self, full, area, chart):
        self.ways = Ways(area)
        self.ways.learn(chart, chart.known())
        self.chart = chart
        self.full = full
        self.place = DOCK
        self.left = full
        self.sides_made = []

    def take_up(self, felt):
        """Note what is felt at the place, or Clash."""
        fresh = not self.chart.has_stood(self.place)
        self.chart.note(self.place, felt)
        # At a cell stood on before nothing new can be felt.
        if fresh:
            self.ways.learn(self.chart, around(self.place))

    def moved_by(self, side):
        """Reckon with a step that was made."""
        self.sides_made.append(side)
        self.place = beside(self.place, side)
        self.left = self.full if self.place == DOCK else self.left - self.chart.ground(self.place)[0]

    def choices(self):
        """The steps (side, cell, cost) that the watchman lets by."""
        return steps_let(self.ways.grounds, self.ways.homes, self.place, self.left)

    def side_home(self):
        """The first side of a way home from a place other than the dock."""
        return first_side(self.ways.grounds, self.ways.homes, self.place)

    def steps_text(self):
        """The steps made, as a text of sides."""
        return "".join(self.sides_made)


def go(feel, step, machine, side):
    """Make a step in the world, and take up what is felt behind it."""
    step(side)
    machine.moved_by(side)
    machine.take_up(feel())
