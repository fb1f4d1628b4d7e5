"""Floors as texts: a row of signs for each row of cells."""

from lampfloor.errors import NoText
from lampfloor.floors import is_floor, marked


def written(floor):
    solids = marked(floor[2])
    rows = []
    for y in range(floor[1]):
        rows.append("".join(["#" if (x, y) in solids else "." for x in range(floor[0])]))
    return "\n".join(rows)


def walls_in(rows):
    walls = []
    for y, row in enumerate(rows):
        walls.extend([(x, y) for x, sign in enumerate(row) if sign == "#"])
    return tuple(sorted(walls))


def read(text):
    rows = text.split("\n")
    floor = (len(rows[0]), len(rows), walls_in(rows))
    # Other signs and rows of unlike length are lost on the way to the floor, so the text does not come back from it.
    if not is_floor(floor) or written(floor) != text:
        raise NoText("this is the writing of no floor")
    return floor
