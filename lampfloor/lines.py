"""Straight lines between the middles of two cells, anywhere, without a floor."""


def crossed(one, other):
    far_x = abs(other[0] - one[0])
    far_y = abs(other[1] - one[1])
    way_x = 1 if other[0] > one[0] else -1
    way_y = 1 if other[1] > one[1] else -1
    gone_x = 0
    gone_y = 0
    cells = [one]
    while gone_x < far_x or gone_y < far_y:
        # The line comes to the next border in x at (2 * gone_x + 1) / (2 * far_x) of its length, in y likewise.
        # Multiplied by 2 * far_x * far_y these are whole numbers; equal ones are a corner.
        border_x = (2 * gone_x + 1) * far_y
        border_y = (2 * gone_y + 1) * far_x
        if border_x <= border_y:
            gone_x = gone_x + 1
        if border_y <= border_x:
            gone_y = gone_y + 1
        cells.append((one[0] + way_x * gone_x, one[1] + way_y * gone_y))
    return cells


def pinched(one, other):
    cells = crossed(one, other)
    couples = []
    for here, there in zip(cells, cells[1:]):
        # Only through a corner does the line come to a cell with another x and another y at once.
        if here[0] != there[0] and here[1] != there[1]:
            couples.append(tuple(sorted([(here[0], there[1]), (there[0], here[1])])))
    return couples
