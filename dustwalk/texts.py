"""Floors, areas and charts as texts, and read from them."""

from dustwalk.areas import Area, Both, Box, Either, Everywhere, Outside
from dustwalk.cells import SIDES, around, beside, is_whole
from dustwalk.charts import Chart
from dustwalk.errors import NoText
from dustwalk.floors import Floor

FIGURES = "0123456789"
MOST_FIGURES = 60


def need_text(text):
    """Refuse what is no text."""
    if not isinstance(text, str):
        raise NoText("what is read is a text")


def is_number(word):
    """Whether a word is a number as it is written."""
    figures = word[1:] if word.startswith("-") else word
    if len(figures) == 0 or len(figures) > MOST_FIGURES:
        return False
    if any([sign not in FIGURES for sign in figures]):
        return False
    return figures[0] != "0" or word == "0"


def read_number(word):
    """The number that a word writes, or NoText."""
    if not is_number(word):
        raise NoText("a number is written by figures, with no nought ahead")
    return int(word)


def show_ground(ground):
    """A ground as a word."""
    if ground is None:
        return "#"
    cost = str(ground[0])
    height = str(ground[1])
    return cost if ground[1] == 0 else f"{cost}:{height}"


def read_ground(word):
    """The ground that a word writes, its cost any number; or NoText."""
    if word == "#":
        return None
    cut = word.partition(":")
    cost = read_number(cut[0])
    if cut[1] == "":
        return (cost, 0)
    height = read_number(cut[2])
    if height == 0:
        raise NoText("a height of 0 is not written")
    return (cost, height)


def show_row(row):
    """A row of grounds as words."""
    return " ".join([show_ground(ground) for ground in row])


def show_pair(pair):
    """Two numbers as words."""
    one = str(pair[0])
    other = str(pair[1])
    return f"{one} {other}"


def show_floor(floor):
    """A floor as a text."""
    dock = show_pair(floor.dock())
    return "\n".join([f"dock {dock}"] + [show_row(row) for row in floor.rows()])


def read_dock(line):
    """The dock that the first row of a floor's text writes, or NoText."""
    words = line.split(" ")
    if len(words) != 3 or words[0] != "dock":
        raise NoText("a floor's first row is dock and two numbers")
    return (read_number(words[1]), read_number(words[2]))


def read_floor(text):
    """The floor that a text writes, or NoText, BadFloor, TooMany."""
    need_text(text)
    lines = text.split("\n")
    dock = read_dock(lines[0])
    rows = []
    for line in lines[1:]:
        rows.append([read_ground(word) for word in line.split(" ")])
    return Floor(rows, dock)


def show_area(area):
    """An area as a text."""
    if isinstance(area, Box):
        top_left = show_pair((area.top, area.left))
        bottom_right = show_pair((area.bottom, area.right))
        return f"box {top_left} {bottom_right}"
    if isinstance(area, Both):
        return " ".join(["both", show_area(area.one), show_area(area.other)])
    if isinstance(area, Either):
        return " ".join(["either", show_area(area.one), show_area(area.other)])
    if isinstance(area, Outside):
        return " ".join(["outside", show_area(area.one)])
    return "everywhere"


def taken_number(things):
    """The number taken from the end of a list of things read, or NoText."""
    if len(things) == 0 or not is_whole(things[-1]):
        raise NoText("a box has four numbers")
    return things.pop()


def taken_area(things):
    """The area taken from the end of a list of things read, or NoText."""
    if len(things) == 0 or not isinstance(things[-1], Area):
        raise NoText("an area is missing behind a word")
    return things.pop()


def taken_box(things):
    """The box of which the four numbers are taken from the end of a list of things read, or NoText."""
    top = taken_number(things)
    left = taken_number(things)
    bottom = taken_number(things)
    right = taken_number(things)
    return Box(top, left, bottom, right)


def read_thing(things, word):
    """What a word writes with the things read behind it, the nearest of which is the last; or NoText."""
    if word == "everywhere":
        return Everywhere()
    if word == "box":
        return taken_box(things)
    if word == "outside":
        return Outside(taken_area(things))
    if word == "both" or word == "either":
        one = taken_area(things)
        other = taken_area(things)
        return Both(one, other) if word == "both" else Either(one, other)
    return read_number(word)


def read_area(text):
    """The area that a text writes, or NoText."""
    need_text(text)
    things = []
    # Read from the end, each word finds its parts ready, however deep areas stand in one another.
    for word in reversed(text.split(" ")):
        things.append(read_thing(things, word))
    area = taken_area(things)
    if len(things) > 0:
        raise NoText("more words stand behind an area")
    return area


def show_known(chart, cell):
    """What a chart knows of a cell, as words."""
    words = [show_pair(cell), show_ground(chart.ground(cell))]
    if chart.has_stood(cell):
        words.append("+")
    return " ".join(words)


def show_chart(chart):
    """A chart as a text."""
    return "\n".join([show_known(chart, cell) for cell in chart.known()])


def read_known(line):
    """The tuple (cell, ground, whether it was stood on) that a row of a chart's text writes, or NoText."""
    words = line.split(" ")
    stood = len(words) == 4 and words[3] == "+"
    if len(words) != 3 and not stood:
        raise NoText("a chart's row is a cell, its ground and perhaps +")
    ground = read_ground(words[2])
    if ground is not None and ground[0] < 1:
        raise NoText("a cost is from 1 on")
    return ((read_number(words[0]), read_number(words[1])), ground, stood)


def need_order(cells):
    """Refuse cells of which one stands twice or out of order."""
    for one, other in zip(cells[:-1], cells[1:], strict=True):
        if one >= other:
            raise NoText("a chart's cells are sorted, each once")


def need_felt(grounds, stands):
    """Refuse grounds, and cells stood on, that cannot come of noting what was felt at these."""
    for cell in grounds:
        if cell in stands:
            if grounds[cell] is None or any([near not in grounds for near in around(cell)]):
                raise NoText("a cell stood on is no wall and has four known cells beside it")
        elif all([beside(cell, side) not in stands for side in SIDES]):
            raise NoText("a known cell was stood on or stands beside one that was")


def read_chart(text):
    """The chart that a text writes, or NoText."""
    need_text(text)
    chart = Chart()
    if text == "":
        return chart
    entries = [read_known(line) for line in text.split("\n")]
    need_order([entry[0] for entry in entries])
    grounds = dict([(entry[0], entry[1]) for entry in entries])
    stands = dict([(entry[0], True) for entry in entries if entry[2]])
    need_felt(grounds, stands)
    for cell in stands:
        chart.note(cell, [grounds[near] for near in around(cell)])
    return chart
