"""Tours: a walker that finds out all that can be."""

from lampfloor.floors import is_cell, marked, open_cells
from lampfloor.walking import Walker, all_beside, ways_over


def is_beside_unknown(floor, known, cell):
    return any([is_cell(floor, there) and there not in known for there in all_beside(cell)])


def way_ahead(floor, walker):
    known = marked(walker.knows())
    ground = marked([cell for cell in open_cells(floor) if cell in known])
    ways = ways_over(ground, walker.where())
    goals = [(len(ways[cell]), cell) for cell in ways if is_beside_unknown(floor, known, cell)]
    if goals == []:
        return None
    return ways[min(goals)[1]]


def toured(floor, cell):
    walker = Walker(floor, cell)
    way = ""
    ahead = way_ahead(floor, walker)
    while ahead is not None:
        # A walker knows all that is beside it, so a way ahead is never empty.
        for word in ahead:
            walker.step(word)
        way = way + ahead
        ahead = way_ahead(floor, walker)
    return (way, walker.knows())
