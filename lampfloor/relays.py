"""Relays: signs handed on by sight, and the cells to which steps or signs come."""

from lampfloor.errors import NoWay
from lampfloor.floors import marked, open_cells, refuse_not_open
from lampfloor.sight import lets_see
from lampfloor.walking import ways_over


def chains_from(floor, start):
    # All chains of one length are made longer in their own order, so the first chain to a cell is the least. Cells
    # that have one are not looked for again, which spares most lines.
    solids = marked(floor[2])
    chains = {start: [start]}
    left = [cell for cell in open_cells(floor) if cell != start]
    reached = [start]
    while reached != []:
        farther = []
        for cell in reached:
            found = [there for there in left if lets_see(solids, cell, there)]
            chains.update(dict([(there, chains[cell] + [there]) for there in found]))
            left = [there for there in left if there not in chains]
            farther.extend(found)
        reached = farther
    return chains


def relay(floor, one, other):
    refuse_not_open(floor, one)
    refuse_not_open(floor, other)
    chains = chains_from(floor, one)
    if other not in chains:
        raise NoWay(f"no signs come from {one!r} to {other!r}")
    return chains[other]


def parted(cells, reached_from):
    groups = []
    left = cells
    while left != []:
        reached = reached_from(left[0])
        groups.append([cell for cell in left if cell in reached])
        left = [cell for cell in left if cell not in reached]
    return groups


def rooms(floor):
    ground = marked(open_cells(floor))
    return parted(open_cells(floor), lambda cell: ways_over(ground, cell))


def halls(floor):
    return parted(open_cells(floor), lambda cell: chains_from(floor, cell))
