"""Floors cut out of others, and put together."""

from lampfloor.errors import OffFloor
from lampfloor.floors import LONGEST_SIDE, all_cells, flipped, is_cell, is_floor, marked, refuse_off_floor


def shifted(cells, right, down):
    return [(x + right, y + down) for x, y in cells]


def part_of(floor, one, other):
    refuse_off_floor(floor, one)
    refuse_off_floor(floor, other)
    left = min(one[0], other[0])
    top = min(one[1], other[1])
    bare = (max(one[0], other[0]) - left + 1, max(one[1], other[1]) - top + 1, ())
    walls = [wall for wall in shifted(floor[2], -left, -top) if is_cell(bare, wall)]
    return (bare[0], bare[1], tuple(walls))


def set_right(one, other):
    if one[1] != other[1]:
        raise OffFloor("the floors do not fit together")
    if one[0] + other[0] > LONGEST_SIDE:
        raise OffFloor(f"a floor is no longer than {LONGEST_SIDE}")
    # All walls of the other have a greater x now, so the walls still rise.
    return (one[0] + other[0], one[1], one[2] + tuple(shifted(other[2], one[0], 0)))


def set_below(one, other):
    return flipped(set_right(flipped(one), flipped(other)))


def walled(floor):
    area = (floor[0] + 2, floor[1] + 2, ())
    inside = marked(shifted(all_cells(floor), 1, 1))
    walls = [cell for cell in all_cells(area) if cell not in inside] + shifted(floor[2], 1, 1)
    around = (area[0], area[1], tuple(sorted(walls)))
    if not is_floor(around):
        raise OffFloor("no floor is as large as this one within walls")
    return around
