"""Sight: which cells of a floor see which."""

from lampfloor.floors import all_cells, marked, open_cells, refuse_not_open, refuse_off_floor
from lampfloor.lines import couples_beside, crossed


def lets_see(solids, one, other):
    # Whether the last cell is a wall is left to who asks: a wall is seen, too, but does not see.
    cells = crossed(one, other)
    for cell in cells[:-1]:
        if cell in solids:
            return False
    for first, second in couples_beside(cells):
        if first in solids and second in solids:
            return False
    return True


def see_each_other(solids, one, other):
    return other not in solids and lets_see(solids, one, other)


def sees(floor, one, other):
    refuse_off_floor(floor, one)
    refuse_off_floor(floor, other)
    return see_each_other(marked(floor[2]), one, other)


def seen_from(floor, cell):
    refuse_not_open(floor, cell)
    solids = marked(floor[2])
    return [other for other in all_cells(floor) if lets_see(solids, cell, other)]


def field_of(floor, cell):
    refuse_not_open(floor, cell)
    solids = marked(floor[2])
    return [other for other in open_cells(floor) if lets_see(solids, cell, other)]


def all_couples(cells):
    couples = []
    for number, one in enumerate(cells):
        couples.extend([(one, other) for other in cells[number + 1:]])
    return couples


def couples_of(floor):
    solids = marked(floor[2])
    return [couple for couple in all_couples(open_cells(floor)) if lets_see(solids, couple[0], couple[1])]


def times_seen(floor, cells):
    times = dict([(cell, 0) for cell in open_cells(floor)])
    for cell in cells:
        for other in field_of(floor, cell):
            times[other] = times[other] + 1
    return times


def seen_by_all(floor, cells):
    times = times_seen(floor, cells)
    return [cell for cell in times if times[cell] == len(cells)]


def seen_by_any(floor, cells):
    times = times_seen(floor, cells)
    return [cell for cell in times if times[cell] > 0]
