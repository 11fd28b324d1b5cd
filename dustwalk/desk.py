"""The desk: a floor and a chart, asked by lines of text."""

from dustwalk.carried import fits, parting
from dustwalk.cells import DOCK, beside
from dustwalk.charts import Chart
from dustwalk.closures import closure, round_trip
from dustwalk.distances import homes, outs
from dustwalk.errors import NoRow, NoText
from dustwalk.tables import too_far
from dustwalk.texts import read_area, read_floor, read_number, show_chart, show_floor, show_pair
from dustwalk.walker import clean

FLOOR_HEAD = "floor\n"
WORDS = {"forget": 1, "show": 1, "chart": 1, "clean": 3, "closure": 3, "far": 5, "round": 5, "find": 3, "part": 3}
WITH_AREA = ("clean", "closure", "far", "round")


def words_of(line):
    """The words of a line that is listed, an area as one word; or NoRow."""
    head = line.partition(" ")[0]
    if head not in WORDS:
        raise NoRow("no such line is listed")
    words = line.split(" ", WORDS[head] - 1) if head in WITH_AREA else line.split(" ")
    if len(words) != WORDS[head]:
        raise NoRow("the line has more or fewer words than listed")
    return words


def read_full(word):
    """The store that a word writes, or NoText."""
    full = read_number(word)
    if full < 0:
        raise NoText("a store is from 0 on")
    return full


def read_cell(row, column):
    """The cell that two words write, or NoText."""
    return (read_number(row), read_number(column))


def show_cells(cells):
    """Cells as an answer."""
    return ", ".join([show_pair(cell) for cell in cells])


class Standing:
    """A machine's place on a floor, at first the dock."""

    def __init__(self, floor):
        self.floor = floor
        self.place = DOCK

    def felt_here(self):
        """What is felt at the place."""
        return self.floor.felt(self.place)

    def step_to(self, side):
        """Make a step by a side."""
        self.place = beside(self.place, side)


class Desk:
    """A desk; it keeps a floor, at first none, and a chart."""

    def __init__(self):
        self.floor = None
        self.chart = Chart()

    def say(self, line):
        """The answer to a line, or a refusal, which changes nothing."""
        if not isinstance(line, str):
            raise NoRow("a line is a text")
        if line.startswith(FLOOR_HEAD):
            return self.keep(read_floor(line[len(FLOOR_HEAD):]))
        words = words_of(line)
        if self.floor is None:
            raise NoRow("there is no floor yet")
        if len(words) == 1:
            return self.answer_word(words[0])
        if words[0] == "find" or words[0] == "part":
            return self.answer_cell(words[0], read_cell(words[1], words[2]))
        full = read_full(words[1])
        if len(words) == 3:
            return self.answer_area(words[0], full, read_area(words[2]))
        cell = read_cell(words[2], words[3])
        return self.answer_round(words[0], full, cell, read_area(words[4]))

    def keep(self, floor):
        """Keep a floor, with a chart that knows nothing."""
        self.floor = floor
        self.chart = Chart()
        return "ok"

    def answer_word(self, head):
        """The answer to forget, show or chart."""
        if head == "forget":
            return self.keep(self.floor)
        return show_floor(self.floor) if head == "show" else show_chart(self.chart)

    def answer_cell(self, head, cell):
        """The answer to find or part."""
        cells = fits(self.chart, self.floor.felt(cell))
        if head == "find":
            return show_cells(cells)
        parted = parting(self.chart, cells)
        return "none" if parted is None else str(parted[0])

    def answer_area(self, head, full, area):
        """The answer to clean or closure."""
        if head == "clean":
            return self.cleaned(full, area)
        return show_cells(closure(self.floor, area, full, self.chart))

    def cleaned(self, full, area):
        """Let a walker clean the floor; how many cells it stood on that were new, and how many are left."""
        standing = Standing(self.floor)
        before = len(self.chart.stood())
        report = clean(
            lambda: standing.felt_here(),
            lambda side: standing.step_to(side),
            full, area, self.chart)
        self.chart = report.chart
        return show_pair((len(self.chart.stood()) - before, len(report.left)))

    def answer_round(self, head, full, cell, area):
        """The answer to far or round."""
        if head == "far":
            far = too_far(self.chart, area, full, cell, outs(self.chart, area), homes(self.chart, area))
            return "yes" if far else "no"
        sides = round_trip(self.chart, area, full, cell)
        return "none" if sides is None else sides
