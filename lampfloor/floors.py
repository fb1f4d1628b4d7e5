"""Floors (wide, high, walls), and their cells (x, y)."""

from lampfloor.errors import InWall, OffFloor

LONGEST_SIDE = 12


def is_whole(thing):
    # Python counts its truths among the ints, the document does not.
    return isinstance(thing, int) and not isinstance(thing, bool)


def is_side(thing):
    return is_whole(thing) and 1 <= thing <= LONGEST_SIDE


def is_whole_couple(thing):
    if not isinstance(thing, tuple) or len(thing) != 2:
        return False
    return is_whole(thing[0]) and is_whole(thing[1])


def is_cell(floor, thing):
    # The floor's own bounds are not asked for here: one somewhat too large is not refused.
    if not is_whole_couple(thing):
        return False
    return 0 <= thing[0] < floor[0] and 0 <= thing[1] < floor[1]


def are_walls(floor, thing):
    # Cells are asked for first, since only things of one kind can be put in order.
    if not isinstance(thing, tuple) or not all([is_cell(floor, wall) for wall in thing]):
        return False
    return list(thing) == sorted(set(thing))


def is_floor(thing):
    if not isinstance(thing, tuple) or len(thing) != 3:
        return False
    return is_side(thing[0]) and is_side(thing[1]) and are_walls(thing, thing[2])


def refuse_off_floor(floor, cell):
    if not is_cell(floor, cell):
        raise OffFloor(f"the floor has no cell {cell!r}")


def is_solid(floor, cell):
    refuse_off_floor(floor, cell)
    return cell in floor[2]


def refuse_not_open(floor, cell):
    if is_solid(floor, cell):
        raise InWall(f"there is a wall at {cell!r}")


def all_cells(floor):
    cells = []
    for x in range(floor[0]):
        cells.extend([(x, y) for y in range(floor[1])])
    return cells


def open_cells(floor):
    return sorted(set(all_cells(floor)) - set(floor[2]))


def marked(things):
    # A dict is asked much faster than a list or a tuple whether it holds a thing.
    return dict([(thing, True) for thing in things])


def with_solid(floor, cell):
    refuse_off_floor(floor, cell)
    return (floor[0], floor[1], tuple(sorted(set(floor[2] + (cell,)))))


def without_solid(floor, cell):
    refuse_off_floor(floor, cell)
    return (floor[0], floor[1], tuple([wall for wall in floor[2] if wall != cell]))


def mirrored(floor):
    walls = [(floor[0] - 1 - x, y) for x, y in floor[2]]
    return (floor[0], floor[1], tuple(sorted(walls)))


def flipped(floor):
    walls = [(y, x) for x, y in floor[2]]
    return (floor[1], floor[0], tuple(sorted(walls)))
