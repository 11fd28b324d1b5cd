"""A machine that was carried elsewhere finds out on which cell of its chart it stands."""

from dustwalk.cells import SIDES, around, beside, can_step
from dustwalk.errors import TooMany

MOST_CELLS = 8
MOST_STOOD = 200


def known_at(chart, cell):
    """The five grounds that a chart knows at a cell."""
    return [chart.ground(near) for near in around(cell)]


def fits(chart, felt):
    """The cells stood on at which a chart knows just these five grounds, sorted."""
    return [cell for cell in chart.stood() if known_at(chart, cell) == list(felt)]


def moved(chart, cells, side):
    """The cells on a side of some cells stood on, where each can be stepped on and was; else None."""
    ends = []
    for cell in cells:
        end = beside(cell, side)
        if not chart.has_stood(end) or not can_step(chart.ground(cell), chart.ground(end)):
            return None
        ends.append(end)
    return ends


def branches_of(chart, cells):
    """The cells parted by what is known at them: a list of tuples (felt, cells), these as tuples."""
    parts = {}
    for cell in cells:
        parts.setdefault(tuple(known_at(chart, cell)), []).append(cell)
    return [(felt, tuple(part)) for felt, part in parts.items()]


def choices_of(chart, cells):
    """The ways in which some cells can be moved: a list of tuples (side, branches)."""
    choices = []
    # One cell is parted already, and need not move.
    if len(cells) > 1:
        for side in SIDES:
            ends = moved(chart, cells, side)
            if ends is not None:
                choices.append((side, branches_of(chart, ends)))
    return choices


def all_choices(chart, start):
    """A dict from all tuples of cells that may come of one by moving and parting, to their choices."""
    found = {}
    waiting = [start]
    while len(waiting) > 0:
        cells = waiting.pop()
        if cells not in found:
            found[cells] = choices_of(chart, cells)
            for choice in found[cells]:
                waiting.extend([branch[1] for branch in choice[1]])
    return found


def users_of(found):
    """A dict from tuples of cells to the places (cells, number of the choice) that have them as a branch."""
    users = {}
    for cells, choices in found.items():
        for k, choice in enumerate(choices):
            for branch in choice[1]:
                users.setdefault(branch[1], []).append((cells, k))
    return users


def best_choices(found):
    """A dict from the tuples of cells that can be parted to tuples (least depth, choice).

    They are found in the order of their depths: once the last branch of a choice is, so is the choice.
    """
    users = users_of(found)
    parted = {}
    best = {}
    queue = [cells for cells in found if len(cells) == 1]
    for cells in queue:
        best[cells] = (0, None)
    place = 0
    while place < len(queue):
        branch = queue[place]
        depth = best[branch][0] + 1
        for user in users.get(branch, []):
            cells = user[0]
            choice = found[cells][user[1]]
            parted[user] = parted.get(user, 0) + 1
            if parted[user] == len(choice[1]) and cells not in best:
                best[cells] = (depth, choice)
                queue.append(cells)
        place = place + 1
    return best


def nodes_of(best, start):
    """The nodes of the tree of the best choices: tuples (cells, choice, place of the first branch's node)."""
    nodes = []
    waiting = [start]
    while len(nodes) < len(waiting):
        cells = waiting[len(nodes)]
        choice = best[cells][1]
        nodes.append((cells, choice, len(waiting)))
        if choice is not None:
            waiting.extend([branch[1] for branch in choice[1]])
    return nodes


def grown_tree(nodes):
    """The tree of some nodes, grown from its leaves, as it may be deeper than calls should go."""
    trees = {}
    for place in range(len(nodes) - 1, -1, -1):
        cells = nodes[place][0]
        choice = nodes[place][1]
        first = nodes[place][2]
        if choice is None:
            trees[place] = cells[0]
        else:
            branches = [(list(branch[0]), trees[first + k]) for k, branch in enumerate(choice[1])]
            trees[place] = (choice[0], branches)
    return trees[0]


def parting(chart, cells):
    """A tuple (depth, tree) of a tree of the least depth that parts some cells, or None; or TooMany."""
    if len(cells) > MOST_CELLS or len(chart.stood()) > MOST_STOOD:
        raise TooMany("at most eight cells are parted, of at most two hundred stood on")
    start = tuple(cells)
    best = best_choices(all_choices(chart, start))
    if start not in best:
        return None
    return (best[start][0], grown_tree(nodes_of(best, start)))
