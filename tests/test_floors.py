"""Promises 1.1, 1.2, and 0.3 and 0.2 (a) as far as they speak of floors."""

import copy
import unittest

from helper import DEEP, NO_TUPLES, cells_beyond, whole_area
from lampfloor.errors import LampError, OffFloor
from lampfloor.floors import (
    flipped,
    is_cell,
    is_floor,
    is_solid,
    mirrored,
    open_cells,
    with_solid,
    without_solid,
)

#     . # . .
#     . . # #
#     # . . .
WIDE = (4, 3, ((0, 2), (1, 0), (2, 1), (3, 1)))

#     # .
#     . .
#     . #
HIGH = (2, 3, ((0, 0), (1, 2)))

BARE = (3, 2, ())
FULL = (2, 2, ((0, 0), (0, 1), (1, 0), (1, 1)))
SINGLE = (1, 1, ())
SINGLE_FULL = (1, 1, ((0, 0),))
LARGEST = (12, 12, ((0, 0), (0, 11), (5, 6), (11, 0), (11, 11)))

FLOORS = [WIDE, HIGH, BARE, FULL, SINGLE, SINGLE_FULL, LARGEST, (12, 1, ((3, 0),)), (1, 12, ((0, 3),))]


class IsFloor(unittest.TestCase):
    def is_one(self, thing):
        self.assertIs(is_floor(thing), True, repr(thing))

    def is_none(self, thing):
        self.assertIs(is_floor(thing), False, repr(thing))

    def test_floors(self):
        for floor in FLOORS:
            self.is_one(floor)

    def test_each_size_from_1_to_12_and_none_beyond(self):
        for wide in range(-2, 16):
            for high in range(-2, 16):
                if 1 <= wide <= 12 and 1 <= high <= 12:
                    self.is_one((wide, high, ()))
                    self.is_one((wide, high, ((wide - 1, high - 1),)))
                else:
                    self.is_none((wide, high, ()))
        self.is_none((10 ** 20, 1, ()))

    def test_walls_on_all_cells(self):
        self.is_one((12, 12, tuple(whole_area((12, 12)))))

    def test_walls_rise_by_x_then_by_y(self):
        self.is_one((3, 3, ((0, 2), (1, 0))))
        self.is_none((3, 3, ((1, 0), (0, 2))))
        self.is_one((3, 3, ((1, 0), (1, 1))))
        self.is_none((3, 3, ((1, 1), (1, 0))))
        self.is_none((3, 3, ((0, 0), (2, 2), (1, 1))))

    def test_walls_stand_once(self):
        self.is_none((3, 3, ((1, 1), (1, 1))))
        self.is_none((3, 3, ((0, 0), (1, 1), (1, 1), (2, 2))))

    def test_walls_are_cells_of_the_floor(self):
        for floor in [(4, 3, ()), (3, 4, ()), (1, 1, ()), (12, 12, ())]:
            for cell in cells_beyond(floor):
                self.is_none((floor[0], floor[1], (cell,)))
        self.is_none((2, 3, ((0, 0), (2, 1))))
        self.is_none((2, 3, ((-1, 0), (0, 0))))

    def test_truths_are_no_whole_numbers(self):
        self.is_none((True, 1, ()))
        self.is_none((1, True, ()))
        self.is_none((True, True, ()))
        self.is_none((3, 3, ((True, 1),)))
        self.is_none((3, 3, ((1, True),)))
        self.is_none((3, 3, ((False, 1),)))
        self.is_none((3, 3, ((0, False),)))
        self.is_none((3, 3, True))
        self.is_none((3, 3, False))

    def test_lists_are_no_tuples(self):
        self.is_none([3, 3, ()])
        self.is_none((3, 3, []))
        self.is_none((3, 3, [(1, 1)]))
        self.is_none((3, 3, ([1, 1],)))
        self.is_none((3, 3, ((0, 0), [1, 1])))

    def test_too_short_and_too_long(self):
        for thing in [(), (3,), (3, 3), (3, 3, (), ()), (3, 3, (), None)]:
            self.is_none(thing)
        for wall in [(), (1,), (1, 1, 1), (1, 1, None)]:
            self.is_none((3, 3, (wall,)))
            self.is_none((3, 3, ((0, 0), wall)))
        self.is_none((3, 3, (1, 1)))

    def test_other_things(self):
        for thing in NO_TUPLES + DEEP + [("3", "3", ()), ("a", "b", "c"), (None, None, None)]:
            self.is_none(thing)

    def test_other_things_in_each_place(self):
        for thing in NO_TUPLES + DEEP:
            if thing not in (1, 12):
                self.is_none((thing, 3, ()))
                self.is_none((3, thing, ()))
            self.is_none((3, 3, thing))
            self.is_none((3, 3, (thing,)))
            self.is_none((3, 3, ((0, 0), thing)))
            self.is_none((3, 3, (thing, (0, 0))))
            if thing not in (0, 1):
                self.is_none((3, 3, ((thing, 0),)))
                self.is_none((3, 3, ((0, thing),)))

    def test_what_is_handed_in_is_not_changed(self):
        for thing in NO_TUPLES + DEEP + [[3, 3, [[1, 1], [0, 0]]], (3, 3, [(1, 1), (0, 0)])]:
            before = copy.deepcopy(thing)
            is_floor(thing)
            is_cell(WIDE, thing)
            self.assertEqual(thing, before)


class IsCell(unittest.TestCase):
    def test_each_cell_walls_too(self):
        for floor in FLOORS:
            for cell in whole_area(floor):
                self.assertIs(is_cell(floor, cell), True, (floor, cell))

    def test_none_beyond(self):
        for floor in FLOORS:
            for cell in cells_beyond(floor):
                self.assertIs(is_cell(floor, cell), False, (floor, cell))

    def test_wide_is_for_x_and_high_for_y(self):
        self.assertIs(is_cell((4, 2, ()), (3, 1)), True)
        self.assertIs(is_cell((4, 2, ()), (1, 3)), False)
        self.assertIs(is_cell((2, 4, ()), (1, 3)), True)
        self.assertIs(is_cell((2, 4, ()), (3, 1)), False)

    def test_wrong_things(self):
        wrong = [(), (0,), (0, 0, 0), (0, 0, None), [0, 0], (True, 0), (0, True), (False, 0), (0, False)]
        wrong += [("0", "0"), ("0", 0), (0, "0"), (None, None), (None, 0), (0, None), ((0, 0), 0), (0, (0,))]
        wrong += [((0, 0), (0, 0)), ([0], 0), (0, [])]
        for thing in wrong + NO_TUPLES + DEEP:
            self.assertIs(is_cell(WIDE, thing), False, repr(thing))

    def test_a_floor_somewhat_too_large_is_not_refused(self):
        self.assertIs(is_cell((13, 14, ()), (12, 13)), True)
        self.assertIs(is_cell((13, 14, ()), (13, 13)), False)


class IsSolid(unittest.TestCase):
    def test_walls_and_open_cells(self):
        for floor in FLOORS:
            for cell in whole_area(floor):
                self.assertIs(is_solid(floor, cell), cell in floor[2], (floor, cell))

    def test_some_by_hand(self):
        self.assertIs(is_solid(WIDE, (1, 0)), True)
        self.assertIs(is_solid(WIDE, (0, 1)), False)
        self.assertIs(is_solid(WIDE, (3, 1)), True)
        self.assertIs(is_solid(WIDE, (3, 2)), False)


class OpenCells(unittest.TestCase):
    def test_some_by_hand(self):
        self.assertEqual(open_cells(WIDE), [(0, 0), (0, 1), (1, 1), (1, 2), (2, 0), (2, 2), (3, 0), (3, 2)])
        self.assertEqual(open_cells(HIGH), [(0, 1), (0, 2), (1, 0), (1, 1)])
        self.assertEqual(open_cells(BARE), [(0, 0), (0, 1), (1, 0), (1, 1), (2, 0), (2, 1)])
        self.assertEqual(open_cells(SINGLE), [(0, 0)])

    def test_none(self):
        self.assertEqual(open_cells(FULL), [])
        self.assertEqual(open_cells(SINGLE_FULL), [])

    def test_all_that_are_no_walls(self):
        for floor in FLOORS:
            self.assertEqual(open_cells(floor), [cell for cell in whole_area(floor) if cell not in floor[2]])

    def test_a_new_list_each_time(self):
        told = open_cells(WIDE)
        before = list(told)
        told.append((9, 9))
        told[0] = None
        self.assertEqual(open_cells(WIDE), before)

    def test_a_floor_somewhat_too_large_is_not_refused(self):
        self.assertEqual(open_cells((13, 1, ((0, 0),))), [(x, 0) for x in range(1, 13)])


class WallsComeAndGo(unittest.TestCase):
    def test_an_open_cell_made_a_wall(self):
        self.assertEqual(with_solid(WIDE, (1, 2)), (4, 3, ((0, 2), (1, 0), (1, 2), (2, 1), (3, 1))))
        self.assertEqual(with_solid(WIDE, (0, 0)), (4, 3, ((0, 0), (0, 2), (1, 0), (2, 1), (3, 1))))
        self.assertEqual(with_solid(SINGLE, (0, 0)), SINGLE_FULL)

    def test_a_wall_made_a_wall(self):
        for floor in FLOORS:
            for wall in floor[2]:
                self.assertEqual(with_solid(floor, wall), floor)

    def test_a_wall_made_open(self):
        self.assertEqual(without_solid(WIDE, (2, 1)), (4, 3, ((0, 2), (1, 0), (3, 1))))
        self.assertEqual(without_solid(SINGLE_FULL, (0, 0)), SINGLE)

    def test_an_open_cell_made_open(self):
        for floor in FLOORS:
            for cell in open_cells(floor):
                self.assertEqual(without_solid(floor, cell), floor)

    def test_back_again(self):
        for floor in FLOORS:
            for cell in open_cells(floor):
                more = with_solid(floor, cell)
                self.assertIs(is_floor(more), True)
                self.assertEqual(sorted(floor[2] + (cell,)), list(more[2]))
                self.assertEqual(without_solid(more, cell), floor)
            for wall in floor[2]:
                fewer = without_solid(floor, wall)
                self.assertIs(is_floor(fewer), True)
                self.assertEqual(len(fewer[2]), len(floor[2]) - 1)
                self.assertEqual(with_solid(fewer, wall), floor)

    def test_the_floor_handed_in_is_as_it_was(self):
        floor = (2, 2, ((0, 1),))
        with_solid(floor, (0, 0))
        without_solid(floor, (0, 1))
        mirrored(floor)
        flipped(floor)
        self.assertEqual(floor, (2, 2, ((0, 1),)))


class Refusals(unittest.TestCase):
    def test_cells_that_the_floor_does_not_have(self):
        for asked in (is_solid, with_solid, without_solid):
            for floor in FLOORS:
                for cell in cells_beyond(floor):
                    with self.subTest(asked=asked.__name__, floor=floor, cell=cell):
                        with self.assertRaises(OffFloor) as taken:
                            asked(floor, cell)
                        self.assertIsInstance(taken.exception, LampError)

    def test_cells_of_the_floor_are_not_refused(self):
        for asked in (is_solid, with_solid, without_solid):
            for floor in FLOORS:
                for cell in whole_area(floor):
                    asked(floor, cell)


class MirroredAndFlipped(unittest.TestCase):
    def test_mirrored_by_hand(self):
        self.assertEqual(mirrored(WIDE), (4, 3, ((0, 1), (1, 1), (2, 0), (3, 2))))
        self.assertEqual(mirrored(HIGH), (2, 3, ((0, 2), (1, 0))))
        self.assertEqual(mirrored((12, 1, ((3, 0),))), (12, 1, ((8, 0),)))
        self.assertEqual(mirrored((1, 12, ((0, 3),))), (1, 12, ((0, 3),)))

    def test_flipped_by_hand(self):
        self.assertEqual(flipped(WIDE), (3, 4, ((0, 1), (1, 2), (1, 3), (2, 0))))
        self.assertEqual(flipped(HIGH), (3, 2, ((0, 0), (2, 1))))
        self.assertEqual(flipped((12, 1, ((3, 0),))), (1, 12, ((0, 3),)))

    def test_without_walls(self):
        self.assertEqual(mirrored(BARE), (3, 2, ()))
        self.assertEqual(flipped(BARE), (2, 3, ()))

    def test_each_cell_goes_where_it_should(self):
        for floor in FLOORS:
            for x, y in whole_area(floor):
                solid = is_solid(floor, (x, y))
                self.assertIs(is_solid(mirrored(floor), (floor[0] - 1 - x, y)), solid)
                self.assertIs(is_solid(flipped(floor), (y, x)), solid)

    def test_twice_is_as_it_was(self):
        for floor in FLOORS:
            self.assertEqual(mirrored(mirrored(floor)), floor)
            self.assertEqual(flipped(flipped(floor)), floor)

    def test_the_walls_told_rise(self):
        for floor in FLOORS:
            for told in (mirrored(floor), flipped(floor)):
                self.assertIs(is_floor(told), True)
                self.assertEqual(list(told[2]), sorted(set(told[2])))


if __name__ == "__main__":
    unittest.main()
