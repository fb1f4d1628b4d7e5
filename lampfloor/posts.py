"""Posts: from how few cells all are seen, and how many cells there are none of which sees another one."""

from lampfloor.errors import TooMany
from lampfloor.floors import marked, open_cells
from lampfloor.sight import field_of

MOST_CELLS = 12


def cells_to_choose(floor):
    cells = open_cells(floor)
    if len(cells) > MOST_CELLS:
        raise TooMany(f"there are more open cells than {MOST_CELLS}")
    return cells


def fields_by_cell(floor, cells):
    return dict([(cell, marked(field_of(floor, cell))) for cell in cells])


def with_one_more(choices, cells):
    # Rising choices of one length, in rising order, come to all those that are longer by one, again in rising order:
    # so the first that is found is the least.
    longer = []
    for chosen in choices:
        longer.extend([chosen + [cell] for cell in cells if chosen == [] or chosen[-1] < cell])
    return longer


def see_all(fields, posts):
    return all([any([cell in fields[post] for post in posts]) for cell in fields])


def last_sees_none(fields, chosen):
    return not any([cell in fields[chosen[-1]] for cell in chosen[:-1]])


def fewest_posts(floor):
    cells = cells_to_choose(floor)
    fields = fields_by_cell(floor, cells)
    choices = [[]]
    enough = [posts for posts in choices if see_all(fields, posts)]
    while enough == []:
        choices = with_one_more(choices, cells)
        enough = [posts for posts in choices if see_all(fields, posts)]
    return enough[0]


def most_apart(floor):
    cells = cells_to_choose(floor)
    fields = fields_by_cell(floor, cells)
    choices = [[]]
    longer = choices
    while longer != []:
        choices = longer
        # The shorter choices are apart already, so only the cell that came last is to be asked.
        longer = [chosen for chosen in with_one_more(choices, cells) if last_sees_none(fields, chosen)]
    return choices[0]
