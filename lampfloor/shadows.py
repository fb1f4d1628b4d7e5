"""Shadows: what single walls hide from a cell."""

from lampfloor.errors import NotWall
from lampfloor.floors import is_solid, marked, open_cells, refuse_not_open
from lampfloor.lines import couples_beside, crossed


def hindrances(solids, one, other):
    # Groups of walls: sight comes through a group as soon as one wall of it is open.
    cells = crossed(one, other)
    groups = [(cell,) for cell in cells if cell in solids]
    for couple in couples_beside(cells):
        if couple[0] in solids and couple[1] in solids:
            groups.append(couple)
    return groups


def sole_hiders(solids, one, other):
    groups = hindrances(solids, one, other)
    if groups == []:
        return []
    return [wall for wall in groups[0] if all([wall in group for group in groups])]


def shadows_from(floor, cell):
    # From each wall that hides something by itself to what it hides; all lines are walked once, not once a wall.
    refuse_not_open(floor, cell)
    solids = marked(floor[2])
    shadows = {}
    for other in open_cells(floor):
        for wall in sole_hiders(solids, cell, other):
            shadows.setdefault(wall, []).append(other)
    return shadows


def hidden_by(floor, cell, wall):
    shadows = shadows_from(floor, cell)
    if not is_solid(floor, wall):
        raise NotWall(f"there is no wall at {wall!r}")
    return shadows.get(wall, [])


def idle_solids(floor, cell):
    shadows = shadows_from(floor, cell)
    return [wall for wall in floor[2] if wall not in shadows]
