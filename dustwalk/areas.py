"""Areas: which cells a machine may use."""

from dustwalk.cells import DOCK
from dustwalk.errors import NoDock


class Area:
    """Any area; never made by itself."""

    def has(self, cell):
        """Whether the area has a cell."""
        raise NotImplementedError("each kind of area tells this itself")


class Everywhere(Area):
    """All cells."""

    def has(self, cell):
        return True


class Box(Area):
    """The cells from a row to a row and from a column to a column, both ends too."""

    def __init__(self, top, left, bottom, right):
        self.top = top
        self.left = left
        self.bottom = bottom
        self.right = right

    def has(self, cell):
        return self.top <= cell[0] and cell[0] <= self.bottom and self.left <= cell[1] and cell[1] <= self.right


class Both(Area):
    """The cells that both areas have."""

    def __init__(self, one, other):
        self.one = one
        self.other = other

    def has(self, cell):
        return self.one.has(cell) and self.other.has(cell)


class Either(Area):
    """The cells that one of two areas has."""

    def __init__(self, one, other):
        self.one = one
        self.other = other

    def has(self, cell):
        return self.one.has(cell) or self.other.has(cell)


class Outside(Area):
    """The cells that an area does not have."""

    def __init__(self, one):
        self.one = one

    def has(self, cell):
        return not self.one.has(cell)


def need_dock(area):
    """Refuse an area that does not have the dock."""
    if not area.has(DOCK):
        raise NoDock("the area does not have the dock")
