"""Promise 4.1, and 0.3 as far as it speaks of what walls hide."""

import unittest

from helper import (
    ROOMS,
    SMALL_FLOORS,
    cells_beyond,
    drawn_floor,
    flip_cell,
    mirror_cell,
    slow_field,
    slow_open,
    slow_sees,
)
from lampfloor.errors import InWall, NotWall, OffFloor
from lampfloor.floors import flipped, mirrored
from lampfloor.shadows import hidden_by, idle_solids


def slow_hidden(floor, cell, wall):
    without = (floor[0], floor[1], tuple(other for other in floor[2] if other != wall))
    unseen = [other for other in slow_open(floor) if other not in slow_field(floor, cell)]
    return [other for other in unseen if slow_sees(without, cell, other)]


class ByHand(unittest.TestCase):
    def test_a_wall_in_a_row(self):
        floor = drawn_floor("..#..")
        self.assertEqual(hidden_by(floor, (0, 0), (2, 0)), [(3, 0), (4, 0)])
        self.assertEqual(hidden_by(floor, (3, 0), (2, 0)), [(0, 0), (1, 0)])
        self.assertEqual(idle_solids(floor, (0, 0)), [])

    def test_two_walls_that_hide_together_hide_nothing_by_themselves(self):
        floor = drawn_floor(".#.#.")
        self.assertEqual(hidden_by(floor, (0, 0), (1, 0)), [(2, 0)])
        self.assertEqual(hidden_by(floor, (0, 0), (3, 0)), [])
        self.assertEqual(idle_solids(floor, (0, 0)), [(3, 0)])
        self.assertEqual(idle_solids(floor, (2, 0)), [])
        self.assertEqual(idle_solids(drawn_floor(".##."), (0, 0)), [(1, 0), (2, 0)])

    def test_the_wall_itself_is_not_told(self):
        self.assertEqual(hidden_by(drawn_floor(".#"), (0, 0), (1, 0)), [])
        self.assertEqual(idle_solids(drawn_floor(".#"), (0, 0)), [(1, 0)])

    def test_a_corner_with_two_walls(self):
        floor = drawn_floor(".# #.")
        self.assertEqual(hidden_by(floor, (0, 0), (1, 0)), [(1, 1)])
        self.assertEqual(hidden_by(floor, (0, 0), (0, 1)), [(1, 1)])
        self.assertEqual(idle_solids(floor, (0, 0)), [])

    def test_a_corner_with_one_wall(self):
        floor = drawn_floor(".# ..")
        self.assertEqual(hidden_by(floor, (0, 0), (1, 0)), [])
        self.assertEqual(idle_solids(floor, (0, 0)), [(1, 0)])

    def test_two_corners_in_one_line(self):
        floor = drawn_floor(".#. #.# .#.")
        self.assertEqual(hidden_by(floor, (0, 0), (1, 0)), [(1, 1), (2, 0)])
        self.assertEqual(hidden_by(floor, (0, 0), (2, 1)), [])
        self.assertEqual(idle_solids(floor, (0, 0)), [(1, 2), (2, 1)])

    def test_a_corner_and_a_wall_behind_it(self):
        floor = drawn_floor(".#. ##. ...")
        self.assertNotIn((2, 2), hidden_by(floor, (0, 0), (1, 1)))
        self.assertNotIn((2, 2), hidden_by(floor, (0, 0), (1, 0)))

    def test_without_walls(self):
        self.assertEqual(idle_solids((3, 3, ()), (1, 1)), [])


class AgainstTheWords(unittest.TestCase):
    def test_each_cell_and_wall(self):
        for floor in SMALL_FLOORS:
            for cell in slow_open(floor):
                hidden = {wall: slow_hidden(floor, cell, wall) for wall in floor[2]}
                for wall in floor[2]:
                    self.assertEqual(hidden_by(floor, cell, wall), hidden[wall], (floor, cell, wall))
                idle = [wall for wall in floor[2] if not hidden[wall]]
                self.assertEqual(idle_solids(floor, cell), idle, (floor, cell))

    def test_mirrored_and_flipped(self):
        for turned, turn in ((mirrored(ROOMS), mirror_cell), (flipped(ROOMS), flip_cell)):
            for cell in slow_open(ROOMS):
                for wall in ROOMS[2]:
                    told = sorted(turn(ROOMS, other) for other in hidden_by(ROOMS, cell, wall))
                    self.assertEqual(hidden_by(turned, turn(ROOMS, cell), turn(ROOMS, wall)), told)


class Refusals(unittest.TestCase):
    fine, wall, off = (0, 0), (2, 0), (6, 0)

    def refused(self, refusal, asked, *asked_of):
        with self.assertRaises(refusal, msg=asked_of):
            asked(ROOMS, *asked_of)

    def test_of_the_cell(self):
        for cell in cells_beyond(ROOMS):
            self.refused(OffFloor, hidden_by, cell, self.wall)
            self.refused(OffFloor, idle_solids, cell)
        for wall in ROOMS[2]:
            self.refused(InWall, hidden_by, wall, self.wall)
            self.refused(InWall, hidden_by, wall, wall)
            self.refused(InWall, idle_solids, wall)

    def test_of_the_wall(self):
        for cell in cells_beyond(ROOMS):
            self.refused(OffFloor, hidden_by, self.fine, cell)
        for cell in slow_open(ROOMS):
            self.refused(NotWall, hidden_by, self.fine, cell)
            self.refused(NotWall, hidden_by, cell, cell)

    def test_the_cell_comes_first(self):
        self.refused(InWall, hidden_by, self.wall, self.off)
        self.refused(InWall, hidden_by, self.wall, self.fine)
        self.refused(OffFloor, hidden_by, self.off, self.fine)


class NothingIsKept(unittest.TestCase):
    def test_new_lists_each_time(self):
        floor = drawn_floor(".#.#.")
        for asked in (
            lambda: hidden_by(floor, (0, 0), (1, 0)),
            lambda: hidden_by(floor, (0, 0), (3, 0)),
            lambda: idle_solids(floor, (0, 0)),
        ):
            told = asked()
            before = list(told)
            self.assertIs(told.__class__, list)
            told.append(None)
            self.assertEqual(asked(), before)


if __name__ == "__main__":
    unittest.main()
