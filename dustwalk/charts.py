"""Charts: what is known of cells, and which of them were stood on."""

from dustwalk.cells import UNKNOWN, around
from dustwalk.errors import Clash


def refuse_unlike(grounds, others):
    """Raise Clash with the least cell that has one ground in a dict and another in the other."""
    unlike = [cell for cell in others if cell in grounds and grounds[cell] != others[cell]]
    if len(unlike) > 0:
        raise Clash(min(unlike))


class Chart:
    """A chart; a new one knows nothing."""

    def __init__(self):
        self.grounds = {}
        self.stands = {}

    def ground(self, cell):
        """The ground of a cell, or ? where nothing is known of it."""
        return self.grounds.get(cell, UNKNOWN)

    def known(self):
        """The cells of which something is known, sorted."""
        return sorted(self.grounds)

    def open_cells(self):
        """The cells known to be no walls, sorted."""
        return [cell for cell in self.known() if self.grounds[cell] is not None]

    def stood(self):
        """The cells that were stood on, sorted."""
        return sorted(self.stands)

    def has_stood(self, cell):
        """Whether a cell was stood on."""
        return cell in self.stands

    def note(self, cell, felt):
        """Note the five grounds felt at a cell; refused with Clash, nothing is noted."""
        news = dict(zip(around(cell), felt, strict=True))
        refuse_unlike(self.grounds, news)
        self.grounds.update(news)
        self.stands[cell] = True

    def copied(self):
        """A chart of its own that tells the same."""
        twin = Chart()
        twin.grounds = dict(self.grounds)
        twin.stands = dict(self.stands)
        return twin


def poured(one, other):
    """A new chart of all that two charts tell, or Clash where they tell unlike grounds."""
    refuse_unlike(one.grounds, other.grounds)
    both = one.copied()
    both.grounds.update(other.grounds)
    both.stands.update(other.stands)
    return both
