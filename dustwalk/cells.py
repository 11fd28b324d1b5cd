"""Whole numbers, cells and their sides, grounds and steps."""

SIDES = ("n", "e", "s", "w")
DOCK = (0, 0)
UNKNOWN = "?"
MOVES = {"n": (-1, 0), "e": (0, 1), "s": (1, 0), "w": (0, -1)}
OPPOSITE = {"n": "s", "e": "w", "s": "n", "w": "e"}


def is_whole(thing):
    """Whether a thing is a whole number; True and False are none."""
    return isinstance(thing, int) and not isinstance(thing, bool)


def is_whole_pair(thing):
    """Whether a thing is a tuple of two whole numbers."""
    return isinstance(thing, tuple) and len(thing) == 2 and is_whole(thing[0]) and is_whole(thing[1])


def is_ground(thing):
    """Whether a thing is a wall, or a cost from 1 on with a height."""
    return thing is None or (is_whole_pair(thing) and thing[0] >= 1)


def beside(cell, side):
    """The cell that stands on a side of a cell."""
    move = MOVES[side]
    return (cell[0] + move[0], cell[1] + move[1])


def around(cell):
    """The five cells that are felt at a cell, in the order in which they are felt."""
    return [cell] + [beside(cell, side) for side in SIDES]


def is_open(ground):
    """Whether a ground, or ?, is known to be no wall."""
    return ground is not None and ground != UNKNOWN


def can_step(one, other):
    """Whether one can step from the first ground to the second one beside it."""
    return is_open(one) and is_open(other) and other[1] <= one[1]
