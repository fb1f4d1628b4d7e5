"""Walkers, the steps that they take, and ways on which no watcher sees one."""

from lampfloor.errors import NoStep, NoWay
from lampfloor.floors import is_cell, is_solid, marked, open_cells, refuse_not_open
from lampfloor.sight import seen_by_any, seen_from

# In the order in which ways are told apart.
STEPS = {"n": (0, -1), "e": (1, 0), "s": (0, 1), "w": (-1, 0)}


def beside(cell, word):
    return (cell[0] + STEPS[word][0], cell[1] + STEPS[word][1])


def all_beside(cell):
    return [beside(cell, word) for word in STEPS]


def steps_over(ground, cell):
    return [(word, beside(cell, word)) for word in STEPS if beside(cell, word) in ground]


def stepped(floor, cell, word):
    if word not in STEPS:
        raise NoStep(f"{word!r} is no step")
    there = beside(cell, word)
    if not is_cell(floor, there) or is_solid(floor, there):
        raise NoStep(f"no step leads to {there!r}")
    return there


def ways_over(ground, start):
    # All ways of one length are made longer in their own order, so the first way to a cell is the one to tell.
    ways = {start: ""}
    reached = [start]
    while reached != []:
        farther = []
        for cell in reached:
            for word, there in steps_over(ground, cell):
                if there not in ways:
                    ways[there] = ways[cell] + word
                    farther.append(there)
        reached = farther
    return ways


def hidden_way(floor, watchers, one, other):
    refuse_not_open(floor, one)
    refuse_not_open(floor, other)
    watched = marked(seen_by_any(floor, watchers))
    hidden = marked([cell for cell in open_cells(floor) if cell not in watched])
    if one not in hidden:
        raise NoWay(f"{one!r} is seen")
    ways = ways_over(hidden, one)
    if other not in ways:
        raise NoWay(f"no hidden way leads to {other!r}")
    return ways[other]


class Walker:
    def __init__(self, floor, cell):
        self.known = marked(seen_from(floor, cell))
        self.floor = floor
        self.path = [cell]

    def step(self, word):
        there = stepped(self.floor, self.where(), word)
        fresh = [cell for cell in seen_from(self.floor, there) if cell not in self.known]
        self.path.append(there)
        self.known.update(marked(fresh))
        return fresh

    def where(self):
        return self.path[-1]

    def walked(self):
        return list(self.path)

    def knows(self):
        return sorted(list(self.known))

    def sign_at(self, cell):
        if cell not in self.known:
            return "?"
        return "#" if is_solid(self.floor, cell) else "."

    def row_drawn(self, y):
        return "".join([self.sign_at((x, y)) for x in range(self.floor[0])])

    def drawn(self):
        return "\n".join([self.row_drawn(y) for y in range(self.floor[1])])
