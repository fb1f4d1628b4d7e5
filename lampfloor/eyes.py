"""Eyes (cell, way, far), what they see, and ways on which as few of them as can be see one."""

from lampfloor.errors import NoWay
from lampfloor.floors import is_whole, is_whole_couple, marked, open_cells, refuse_not_open, refuse_off_floor
from lampfloor.lamps import square_apart
from lampfloor.sight import see_each_other
from lampfloor.walking import all_beside, beside, steps_over

FARTHEST = 17
RIGHT_OF = {"n": "e", "e": "s", "s": "w", "w": "n"}


def is_step_word(thing):
    # A list cannot be looked up in a dict, so texts are asked for first.
    return isinstance(thing, str) and thing in RIGHT_OF


def is_eye(thing):
    if not isinstance(thing, tuple) or len(thing) != 3 or not is_whole_couple(thing[0]):
        return False
    return is_step_word(thing[1]) and is_whole(thing[2]) and 1 <= thing[2] <= FARTHEST


def turned(eye):
    return (eye[0], RIGHT_OF[eye[1]], eye[2])


def refuse_eyes(floor, eyes):
    for eye in eyes:
        refuse_not_open(floor, eye[0])


def is_ahead(eye, cell):
    step = beside((0, 0), eye[1])
    x = cell[0] - eye[0][0]
    y = cell[1] - eye[0][1]
    return abs(x * step[1] - y * step[0]) <= x * step[0] + y * step[1]


def does_spot(solids, eye, cell):
    # The lines come last, since they take longest.
    if not is_ahead(eye, cell) or square_apart(eye[0], cell) > eye[2] * eye[2]:
        return False
    return see_each_other(solids, eye[0], cell)


def numbers_on(solids, eyes, cell):
    return [number for number, eye in enumerate(eyes) if does_spot(solids, eye, cell)]


def seen_by(floor, eye):
    refuse_eyes(floor, [eye])
    solids = marked(floor[2])
    return [cell for cell in open_cells(floor) if does_spot(solids, eye, cell)]


def eyes_on(floor, eyes, cell):
    refuse_eyes(floor, eyes)
    refuse_off_floor(floor, cell)
    return numbers_on(marked(floor[2]), eyes, cell)


def times_spotted(floor, eyes):
    solids = marked(floor[2])
    return dict([(cell, len(numbers_on(solids, eyes, cell))) for cell in open_cells(floor)])


def loads_to(times, goal):
    # From each cell that leads to the goal to the least (times, steps) from there on. The least one that waits can't
    # become less, since no step takes anything away.
    loads = {}
    waiting = {goal: (times[goal], 0)}
    while len(waiting) > 0:
        cell = min([(waiting[spot], spot) for spot in waiting])[1]
        load = waiting.pop(cell)
        loads[cell] = load
        for there in all_beside(cell):
            if there in times and there not in loads:
                longer = (load[0] + times[there], load[1] + 1)
                waiting[there] = min(longer, waiting.get(there, longer))
    return loads


def way_down(loads, one, other):
    way = ""
    here = one
    while here != other:
        # Of several that are least, min takes the first, and steps come in the order in which ways are told apart.
        step = min(steps_over(loads, here), key=lambda ahead: loads[ahead[1]])
        way = way + step[0]
        here = step[1]
    return way


def quiet_way(floor, eyes, one, other):
    refuse_not_open(floor, one)
    refuse_not_open(floor, other)
    refuse_eyes(floor, eyes)
    loads = loads_to(times_spotted(floor, eyes), other)
    if one not in loads:
        raise NoWay(f"no way leads from {one!r} to {other!r}")
    return (loads[one][0], way_down(loads, one, other))
