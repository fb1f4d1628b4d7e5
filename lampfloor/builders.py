"""Builders: they change a floor, and go back and forth over what they did."""

from lampfloor.errors import NoStep
from lampfloor.floors import flipped, is_solid, marked, mirrored, open_cells, with_solid, without_solid
from lampfloor.lines import meets
from lampfloor.sight import all_couples, see_each_other


def sights_through(floor, cell):
    # How many couples see each other just as long as this cell is open: none whose line does not meet it.
    freed = without_solid(floor, cell)
    met = [couple for couple in all_couples(open_cells(freed)) if meets(couple[0], couple[1], cell)]
    before = marked(freed[2])
    seeing = [couple for couple in met if see_each_other(before, couple[0], couple[1])]
    after = marked(with_solid(floor, cell)[2])
    return len([couple for couple in seeing if not see_each_other(after, couple[0], couple[1])])


class Builder:
    def __init__(self, floor):
        self.floor = floor
        # Steps are tuples of a word and the floor to which they lead, when taken back or when done again.
        self.done = []
        self.undone = []

    def put(self, cell):
        fewer = 0 if is_solid(self.floor, cell) else sights_through(self.floor, cell)
        self.build("put", with_solid(self.floor, cell))
        return fewer

    def take(self, cell):
        more = sights_through(self.floor, cell) if is_solid(self.floor, cell) else 0
        self.build("take", without_solid(self.floor, cell))
        return more

    def mirror(self):
        self.build("mirror", mirrored(self.floor))

    def flip(self):
        self.build("flip", flipped(self.floor))

    def build(self, word, floor):
        self.done.append((word, self.floor))
        self.undone = []
        self.floor = floor

    def now(self):
        return self.floor

    def lead_over(self, steps, others):
        if steps == []:
            raise NoStep("there is no step to go that way")
        step = steps.pop()
        others.append((step[0], self.floor))
        self.floor = step[1]
        return step[0]

    def back(self):
        return self.lead_over(self.done, self.undone)

    def forth(self):
        return self.lead_over(self.undone, self.done)

    def counts(self):
        return (len(self.done), len(self.undone))

    def twin(self):
        other = Builder(self.floor)
        other.done = list(self.done)
        other.undone = list(self.undone)
        return other
