"""Floors: rows of grounds with a dock, told from the dock."""

from dustwalk.cells import around, is_ground, is_whole_pair
from dustwalk.errors import BadFloor, TooMany

MOST_GROUNDS = 2500


def check_rows(rows):
    """Refuse rows that are not lists of one length from 1 on."""
    if not isinstance(rows, list) or len(rows) == 0:
        raise BadFloor("the rows are a list of one or more rows")
    for row in rows:
        if not isinstance(row, list) or len(row) == 0:
            raise BadFloor("a row is a list of one or more grounds")
        if len(row) != len(rows[0]):
            raise BadFloor("all rows are of one length")


def check_grounds(rows):
    """Refuse rows that hold what is no ground."""
    for row in rows:
        for thing in row:
            if not is_ground(thing):
                raise BadFloor("a ground is None or a tuple of a cost from 1 on and a height")


def check_dock(rows, dock):
    """Refuse a dock that is no place of the rows, or where a wall is."""
    if not is_whole_pair(dock):
        raise BadFloor("the dock is a tuple of the number of a row and of a place in it")
    # Python would take a number below 0 as one counted from the end.
    if dock[0] < 0 or dock[0] >= len(rows) or dock[1] < 0 or dock[1] >= len(rows[0]):
        raise BadFloor("the dock is a place of the rows")
    if rows[dock[0]][dock[1]] is None:
        raise BadFloor("the dock is no wall")


def check_floor(rows, dock):
    """Refuse what is no floor."""
    check_rows(rows)
    check_grounds(rows)
    check_dock(rows, dock)
    # The count comes last: TooMany says that nothing else is amiss.
    if len(rows) * len(rows[0]) > MOST_GROUNDS:
        raise TooMany("a floor has at most 2,500 grounds")


def open_grounds(rows, dock):
    """A dict from the cells that are no walls, told from the dock, to their grounds."""
    found = {}
    for i, row in enumerate(rows):
        for j, ground in enumerate(row):
            if ground is not None:
                found[(i - dock[0], j - dock[1])] = ground
    return found


class Floor:
    """A floor, which never changes once it is made."""

    def __init__(self, rows, dock):
        check_floor(rows, dock)
        self.row_lists = [list(row) for row in rows]
        self.dock_place = dock
        self.grounds = open_grounds(rows, dock)

    def ground(self, cell):
        """The ground of a cell; all cells beyond the rows are walls."""
        return self.grounds.get(cell)

    def felt(self, cell):
        """What is felt at a cell: its own ground and those on its sides n, e, s, w."""
        return [self.ground(near) for near in around(cell)]

    def cells(self):
        """The cells that are no walls, sorted."""
        return sorted(self.grounds)

    def rows(self):
        """The rows as they were handed in."""
        return [list(row) for row in self.row_lists]

    def dock(self):
        """The dock as it was handed in."""
        return self.dock_place
