"""The refusals of the program, one class for each."""


class DustError(ValueError):
    """Any refusal."""


class BadFloor(DustError):
    """What is handed in is no floor."""


class TooMany(DustError):
    """More is handed in than the program takes on."""


class Clash(DustError):
    """Two unlike grounds of one cell; the field cell is the least such cell."""

    def __init__(self, cell):
        DustError.__init__(self, f"two unlike grounds of the cell {cell}")
        self.cell = cell


class NoDock(DustError):
    """The area does not have the dock."""


class NoText(DustError):
    """A text is not written as it is to be."""


class NoRow(DustError):
    """A line is none that the desk knows."""
