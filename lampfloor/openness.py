"""Openness: how much cells see."""

from lampfloor.floors import open_cells
from lampfloor.lamps import square_apart
from lampfloor.sight import all_couples, couples_of, field_of


def openness(floor, cell):
    return len(field_of(floor, cell))


def far_seen(floor, cell):
    return max([square_apart(cell, other) for other in field_of(floor, cell)])


def openness_by_cell(floor):
    # Sight goes both ways, so each couple is looked at once and counted for both; a cell sees itself, too.
    many_seen = dict([(cell, 1) for cell in open_cells(floor)])
    for couple in couples_of(floor):
        for cell in couple:
            many_seen[cell] = many_seen[cell] + 1
    return many_seen


def ranks(floor):
    many_seen = openness_by_cell(floor)
    falling = list(reversed(sorted(set([many_seen[cell] for cell in many_seen]))))
    return [(many, tuple([cell for cell in many_seen if many_seen[cell] == many])) for many in falling]


def most_open(floor):
    falling = ranks(floor)
    if falling == []:
        return None
    return falling[0][1][0]


def blind_pairs(floor):
    return len(all_couples(open_cells(floor))) - len(couples_of(floor))
