"""A keeper: who sees whom, kept up while walls come and go."""

from lampfloor.errors import NotWall
from lampfloor.floors import all_cells, is_solid, marked, refuse_not_open, with_solid, without_solid
from lampfloor.lines import meets
from lampfloor.sight import all_couples, couples_of, see_each_other, sees


class Keeper:
    def __init__(self, floor):
        self.floor = floor
        self.sights = marked(couples_of(floor))
        self.looks = 0

    def put_solid(self, cell):
        refuse_not_open(self.floor, cell)
        return self.changed_to(with_solid(self.floor, cell), cell)

    def take_solid(self, cell):
        if not is_solid(self.floor, cell):
            raise NotWall(f"there is no wall at {cell!r}")
        return self.changed_to(without_solid(self.floor, cell), cell)

    def changed_to(self, floor, cell):
        # A wall more only ends sights, one less only begins some, and only along lines that meet it: so these lines
        # alone are looked at, and one list tells the change either way.
        self.floor = floor
        solids = marked(floor[2])
        changed = []
        for couple in all_couples(all_cells(floor)):
            if meets(couple[0], couple[1], cell):
                self.looks = self.looks + 1
                if see_each_other(solids, couple[0], couple[1]) != (couple in self.sights):
                    changed.append(couple)
        self.turn_over(changed)
        return changed

    def turn_over(self, couples):
        for couple in couples:
            if couple in self.sights:
                self.sights.pop(couple)
            else:
                self.sights[couple] = True

    def now(self):
        return self.floor

    def seen(self):
        return sorted(list(self.sights))

    def do_see(self, one, other):
        return sees(self.floor, one, other)

    def looked(self):
        return self.looks
