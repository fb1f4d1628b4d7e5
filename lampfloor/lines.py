"""Straight lines between the middles of two cells, anywhere, without a floor."""


def crossed(one, other):
    far_x = abs(other[0] - one[0])
    far_y = abs(other[1] - one[1])
    way_x = 1 if other[0] > one[0] else -1
    way_y = 1 if other[1] > one[1] else -1
    gone_x = 0
    gone_y = 0
    cells = [one]
    while gone_x < far_x or gone_y < far_y:
        # The line comes to the next border in x at (2 * gone_x + 1) / (2 * far_x) of its length, in y likewise.
        # Multiplied by 2 * far_x * far_y these are whole numbers; equal ones are a corner.
        border_x = (2 * gone_x + 1) * far_y
        border_y = (2 * gone_y + 1) * far_x
        if border_x <= border_y:
            gone_x = gone_x + 1
        if border_y <= border_x:
            gone_y = gone_y + 1
        cells.append((one[0] + way_x * gone_x, one[1] + way_y * gone_y))
    return cells


def couples_beside(cells):
    couples = []
    for here, there in zip(cells, cells[1:]):
        # Only through a corner does the line come to a cell with another x and another y at once.
        if here[0] != there[0] and here[1] != there[1]:
            couples.append(tuple(sorted([(here[0], there[1]), (there[0], here[1])])))
    return couples


def pinched(one, other):
    return couples_beside(crossed(one, other))


def is_between(one_end, middle, other_end):
    return one_end <= middle <= other_end or other_end <= middle <= one_end


def meets(one, other, cell):
    if not is_between(one[0], cell[0], other[0]) or not is_between(one[1], cell[1], other[1]):
        return False
    way_x = other[0] - one[0]
    way_y = other[1] - one[1]
    # Half a square's width across the line is (far_x + far_y) / 2, measured as this product is: a middle nearer to
    # the line than that lies in a square that is crossed, one just as near in a square that is touched at a corner.
    aside = abs(way_x * (cell[1] - one[1]) - way_y * (cell[0] - one[0]))
    return 2 * aside <= abs(way_x) + abs(way_y)
