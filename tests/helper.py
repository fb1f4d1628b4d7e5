"""What several tests need: floors, wrong things, and slow readings of the document's words."""

import random
from fractions import Fraction
from functools import lru_cache

HALF = Fraction(1, 2)


def nested(make, depth):
    thing = make([0])
    for _ in range(depth):
        thing = make([thing])
    return thing


NO_TUPLES = [None, True, False, 0, 1, -1, 12, "", "#", "(3, 2, ())", [], [3, 2, ()], [[]], [None], [0, 0], "ab", "abc"]
DEEP = [nested(make, depth) for make in (list, tuple) for depth in (1, 2, 9, 10, 11)]


def whole_area(floor):
    return [(x, y) for x in range(floor[0]) for y in range(floor[1])]


def cells_beyond(floor):
    wide, high = floor[0], floor[1]
    rim = [(x, y) for x in (-1, wide) for y in range(-1, high + 1)]
    rim += [(x, y) for x in range(wide) for y in (-1, high)]
    return rim + [(-wide, 0), (0, -high), (wide + 100, 0), (0, high + 100), (10 ** 20, 0), (0, -(10 ** 20))]


def drawn_floor(text):
    """The floor of a drawing: a row a word, `#` for a wall."""
    rows = text.split()
    walls = [(x, y) for y, row in enumerate(rows) for x, sign in enumerate(row) if sign == "#"]
    return (len(rows[0]), len(rows), tuple(sorted(walls)))


def scattered(wide, high, walls, seed):
    chosen = random.Random(seed).sample(whole_area((wide, high)), walls)
    return (wide, high, tuple(sorted(chosen)))


ROOMS = drawn_floor("""
    ..#...
    .....#
    ##.#..
    ...#..
    .#....
""")
BARE = (4, 3, ())
FULL = (3, 2, tuple(sorted((x, y) for x in range(3) for y in range(2))))
SMALL_FLOORS = [
    (1, 1, ()),
    (1, 1, ((0, 0),)),
    (1, 5, ((0, 2),)),
    (5, 1, ((1, 0),)),
    FULL,
    BARE,
    ROOMS,
    scattered(5, 4, 3, 1),
    scattered(5, 4, 6, 2),
    scattered(4, 6, 8, 3),
    scattered(5, 5, 12, 4),
    scattered(3, 7, 5, 5),
    scattered(4, 4, 13, 6),
]


def inside_piece(start, way, low):
    """The part of the line, from 0 to 1, that lies between low and low + 1 in one of the two directions."""
    if way == 0:
        return (Fraction(0), Fraction(1)) if low < start < low + 1 else None
    ends = sorted([(low - start) / way, (low + 1 - start) / way])
    return (max(ends[0], Fraction(0)), min(ends[1], Fraction(1)))


def box(one, other):
    xs = range(min(one[0], other[0]) - 1, max(one[0], other[0]) + 2)
    ys = range(min(one[1], other[1]) - 1, max(one[1], other[1]) + 2)
    return [(x, y) for x in xs for y in ys]


@lru_cache(maxsize=None)
def slow_crossed(one, other):
    """By the words of 2.1: each cell by itself, whether a piece of the line lies inside it."""
    if one == other:
        return [one]
    found = []
    for x, y in box(one, other):
        in_x = inside_piece(one[0] + HALF, other[0] - one[0], x)
        in_y = inside_piece(one[1] + HALF, other[1] - one[1], y)
        if in_x and in_y and max(in_x[0], in_y[0]) < min(in_x[1], in_y[1]):
            found.append((max(in_x[0], in_y[0]), (x, y)))
    return [cell for _, cell in sorted(found)]


@lru_cache(maxsize=None)
def slow_pinched(one, other):
    """By the words of 2.2: each corner by itself, whether the line goes through it."""
    through = slow_crossed(one, other)
    way_x, way_y = other[0] - one[0], other[1] - one[1]
    found = []
    for x, y in box(one, other):
        off_x, off_y = x - one[0] - HALF, y - one[1] - HALF
        along = off_x * way_x + off_y * way_y
        if off_x * way_y == off_y * way_x and 0 <= along <= way_x * way_x + way_y * way_y and (way_x or way_y):
            around = [(x - 1, y - 1), (x - 1, y), (x, y - 1), (x, y)]
            found.append((along, tuple(cell for cell in around if cell not in through)))
    return [couple for _, couple in sorted(found)]


def slow_lets_see(floor, one, other):
    """By the words of 3.2, whether or not the one is open."""
    walls = floor[2]
    if any(cell in walls for cell in slow_crossed(one, other)[:-1]):
        return False
    return not any(first in walls and second in walls for first, second in slow_pinched(one, other))


def slow_sees(floor, one, other):
    """By the words of 3.1."""
    walls = floor[2]
    if any(cell in walls for cell in slow_crossed(one, other)):
        return False
    return not any(first in walls and second in walls for first, second in slow_pinched(one, other))


def slow_open(floor):
    return [cell for cell in whole_area(floor) if cell not in floor[2]]


def slow_seen_from(floor, cell):
    return [other for other in whole_area(floor) if slow_lets_see(floor, cell, other)]


def slow_field(floor, cell):
    return [other for other in slow_open(floor) if slow_sees(floor, cell, other)]


def slow_couples(floor):
    cells = slow_open(floor)
    return [(one, other) for one in cells for other in cells if one < other and slow_sees(floor, one, other)]


def slow_met(one, other):
    return slow_crossed(one, other) + [cell for couple in slow_pinched(one, other) for cell in couple]


def mirror_cell(floor, cell):
    return (floor[0] - 1 - cell[0], cell[1])


def flip_cell(floor, cell):
    return (cell[1], cell[0])


STEPS = {"n": (0, -1), "e": (1, 0), "s": (0, 1), "w": (-1, 0)}


def gone(cell, way):
    """All cells stood on along a way."""
    cells = [cell]
    for word in way:
        cells.append((cells[-1][0] + STEPS[word][0], cells[-1][1] + STEPS[word][1]))
    return cells


def slow_far(ground, goal):
    """How many steps each cell of the ground is from the goal, over the ground alone."""
    far = {goal: 0}
    for _ in ground:
        for cell in ground:
            nears = [far[there] + 1 for there in (gone(cell, word)[1] for word in STEPS) if there in far]
            if nears:
                far[cell] = min(nears + [far.get(cell, nears[0])])
    return far


def slow_way(ground, one, other):
    """The first of the shortest ways over the ground, or None."""
    far = slow_far(ground, other)
    if one not in far:
        return None
    way = ""
    cell = one
    while cell != other:
        way += [word for word in STEPS if far.get(gone(cell, word)[1]) == far[cell] - 1][0]
        cell = gone(one, way)[-1]
    return way
