"""Lamps (cell, strength), and the light that they make: fractions (top, under)."""

from lampfloor.floors import is_whole, is_whole_couple, marked, open_cells, refuse_not_open, refuse_off_floor
from lampfloor.sight import see_each_other

STRONGEST = 99


def is_lamp(thing):
    if not isinstance(thing, tuple) or len(thing) != 2:
        return False
    return is_whole_couple(thing[0]) and is_whole(thing[1]) and 1 <= thing[1] <= STRONGEST


def refuse_lamps(floor, lamps):
    for lamp in lamps:
        refuse_not_open(floor, lamp[0])


def common_divisor(one, other):
    while other != 0:
        rest = one % other
        one = other
        other = rest
    return one


def shortened(top, under):
    divisor = common_divisor(top, under)
    return (top // divisor, under // divisor)


def added(one, other):
    return shortened(one[0] * other[1] + other[0] * one[1], one[1] * other[1])


def is_less(one, other):
    return one[0] * other[1] < other[0] * one[1]


def square_apart(one, other):
    return (one[0] - other[0]) ** 2 + (one[1] - other[1]) ** 2


def light_in(solids, lamps, cell):
    light = (0, 1)
    for spot, strength in lamps:
        if see_each_other(solids, spot, cell):
            light = added(light, (strength, 1 + square_apart(spot, cell)))
    return light


def light_at(floor, lamps, cell):
    refuse_lamps(floor, lamps)
    refuse_off_floor(floor, cell)
    return light_in(marked(floor[2]), lamps, cell)


def lights_of(floor, lamps):
    refuse_lamps(floor, lamps)
    solids = marked(floor[2])
    return [(cell, light_in(solids, lamps, cell)) for cell in open_cells(floor)]


def lit_cells(floor, lamps, least):
    return [cell for cell, light in lights_of(floor, lamps) if not is_less(light, least)]


def dark_cells(floor, lamps):
    return [cell for cell, light in lights_of(floor, lamps) if light == (0, 1)]


def lightest(floor, lamps):
    best = None
    most = None
    for cell, light in lights_of(floor, lamps):
        if best is None or is_less(most, light):
            best = cell
            most = light
    return best
