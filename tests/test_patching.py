"""Promise 13.1, and 0.2 (i) and 0.3 as far as they speak of floors cut out and put together."""

import itertools
import unittest

from helper import FULL, ROOMS, SMALL_FLOORS, cells_beyond, drawn_floor, scattered, slow_open, whole_area
from lampfloor.errors import LampError, OffFloor
from lampfloor.floors import flipped, is_floor, mirrored
from lampfloor.patching import part_of, set_below, set_right, walled
from lampfloor.sight import couples_of, field_of

LARGE_FLOORS = [(12, 12, ()), scattered(12, 12, 30, 130), scattered(12, 12, 70, 131), scattered(12, 7, 30, 132)]


def rows_of(floor):
    return ["".join("#" if (x, y) in floor[2] else "." for x in range(floor[0])) for y in range(floor[1])]


def from_rows(rows):
    return drawn_floor(" ".join(rows))


def one_in(cell):
    return (cell[0] + 1, cell[1] + 1)


class PartByHand(unittest.TestCase):
    def test_some(self):
        self.assertEqual(part_of(ROOMS, (1, 0), (3, 2)), drawn_floor(".#. ... #.#"))
        self.assertEqual(part_of(ROOMS, (4, 1), (5, 4)), drawn_floor(".# .. .. .."))
        self.assertEqual(part_of(ROOMS, (0, 2), (5, 2)), drawn_floor("##.#.."))
        self.assertEqual(part_of(ROOMS, (3, 0), (3, 4)), drawn_floor(". . # # ."))

    def test_the_two_cells_in_any_order(self):
        part = (3, 2, ((1, 0), (2, 1)))
        floor = (5, 4, ((0, 0), (2, 1), (2, 3), (3, 2), (4, 2)))
        for one, other in (((1, 1), (3, 2)), ((3, 2), (1, 1)), ((1, 2), (3, 1)), ((3, 1), (1, 2))):
            self.assertEqual(part_of(floor, one, other), part)

    def test_the_same_cell_twice(self):
        for floor in SMALL_FLOORS:
            for cell in whole_area(floor):
                walls = ((0, 0),) if cell in floor[2] else ()
                self.assertEqual(part_of(floor, cell, cell), (1, 1, walls))

    def test_the_whole(self):
        for floor in SMALL_FLOORS + LARGE_FLOORS:
            self.assertEqual(part_of(floor, (0, 0), (floor[0] - 1, floor[1] - 1)), floor)
            self.assertEqual(part_of(floor, (floor[0] - 1, 0), (0, floor[1] - 1)), floor)

    def test_against_the_rows(self):
        for floor in SMALL_FLOORS:
            for one, other in itertools.product(whole_area(floor)[::2], whole_area(floor)[::3]):
                left, right = sorted([one[0], other[0]])
                top, bottom = sorted([one[1], other[1]])
                rows = [row[left:right + 1] for row in rows_of(floor)[top:bottom + 1]]
                self.assertEqual(part_of(floor, one, other), from_rows(rows), (floor, one, other))
                self.assertIs(is_floor(part_of(floor, one, other)), True)

    def test_a_floor_somewhat_too_large_is_not_refused(self):
        self.assertEqual(part_of((14, 1, ((13, 0),)), (13, 0), (12, 0)), (2, 1, ((1, 0),)))


class PartRefusals(unittest.TestCase):
    def test_each(self):
        for floor in (ROOMS, FULL, (1, 1, ())):
            for cell in cells_beyond(floor):
                for one, other in ((cell, (0, 0)), ((0, 0), cell), (cell, cell)):
                    with self.assertRaises(OffFloor) as taken:
                        part_of(floor, one, other)
                    self.assertIsInstance(taken.exception, LampError)

    def test_walls_are_not_refused(self):
        self.assertEqual(part_of(FULL, (0, 0), (2, 1)), FULL)


class TogetherByHand(unittest.TestCase):
    def test_right(self):
        one, other = drawn_floor(".# .."), drawn_floor("#.. ..#")
        self.assertEqual(set_right(one, other), drawn_floor(".##.. ....#"))
        self.assertEqual(set_right(other, one), drawn_floor("#...# ..#.."))
        self.assertEqual(set_right((1, 1, ()), (1, 1, ((0, 0),))), (2, 1, ((1, 0),)))

    def test_below(self):
        one, other = drawn_floor(".# .."), drawn_floor("#. .. .#")
        self.assertEqual(set_below(one, other), drawn_floor(".# .. #. .. .#"))
        self.assertEqual(set_below(other, one), drawn_floor("#. .. .# .# .."))
        self.assertEqual(set_below((1, 1, ()), (1, 1, ((0, 0),))), (1, 2, ((0, 1),)))

    def test_one_and_the_same(self):
        floor = drawn_floor(".# ..")
        self.assertEqual(set_right(floor, floor), drawn_floor(".#.# ...."))
        self.assertEqual(set_below(floor, floor), drawn_floor(".# .. .# .."))
        self.assertEqual(floor, (2, 2, ((1, 0),)))

    def test_the_walls_rise(self):
        for one, other in itertools.product(SMALL_FLOORS, repeat=2):
            if one[1] == other[1] and one[0] + other[0] <= 12:
                told = set_right(one, other)
                rows = [left + right for left, right in zip(rows_of(one), rows_of(other))]
                self.assertEqual(told, from_rows(rows))
                self.assertIs(is_floor(told), True)
            if one[0] == other[0] and one[1] + other[1] <= 12:
                told = set_below(one, other)
                self.assertEqual(told, from_rows(rows_of(one) + rows_of(other)))
                self.assertIs(is_floor(told), True)

    def test_just_12_together_and_one_more(self):
        for wide in range(1, 12):
            one, other = scattered(wide, 3, wide, 1), scattered(12 - wide, 3, 1, 2)
            self.assertEqual(set_right(one, other)[:2], (12, 3))
            self.assertEqual(set_below(flipped(one), flipped(other))[:2], (3, 12))
            more = (13 - wide, 3, ())
            for refused, parts in ((set_right, (one, more)), (set_below, (flipped(one), flipped(more)))):
                with self.assertRaises(OffFloor):
                    refused(*parts)
                with self.assertRaises(OffFloor):
                    refused(parts[1], parts[0])

    def test_unlike_heights_and_widths(self):
        for one, other in (((2, 3, ()), (2, 4, ())), ((2, 4, ()), (2, 3, ())), ((3, 1, ()), (3, 12, ()))):
            with self.assertRaises(OffFloor):
                set_right(one, other)
            with self.assertRaises(OffFloor):
                set_below(flipped(one), flipped(other))
        self.assertEqual(set_right((2, 3, ()), (4, 3, ())), (6, 3, ()))
        self.assertEqual(set_below((3, 2, ()), (3, 4, ())), (3, 6, ()))
        self.assertEqual(set_below((2, 3, ()), (2, 4, ())), (2, 7, ()))
        self.assertEqual(set_right((3, 2, ()), (4, 2, ())), (7, 2, ()))

    def test_only_the_told_side_is_bounded(self):
        self.assertEqual(set_right((2, 13, ()), (3, 13, ())), (5, 13, ()))
        self.assertEqual(set_below((13, 2, ()), (13, 3, ())), (13, 5, ()))


class WalledByHand(unittest.TestCase):
    def test_some(self):
        self.assertEqual(walled((1, 1, ())), drawn_floor("### #.# ###"))
        self.assertEqual(walled((1, 1, ((0, 0),))), drawn_floor("### ### ###"))
        self.assertEqual(walled(drawn_floor("..# #..")), drawn_floor("##### #..## ##..# #####"))

    def test_against_the_rows(self):
        for floor in SMALL_FLOORS:
            rim = "#" * (floor[0] + 2)
            rows = [rim] + ["#" + row + "#" for row in rows_of(floor)] + [rim]
            self.assertEqual(walled(floor), from_rows(rows))
            self.assertIs(is_floor(walled(floor)), True)

    def test_10_and_11_to_a_side(self):
        for wide, high in ((10, 10), (10, 1), (1, 10)):
            self.assertEqual(walled((wide, high, ()))[:2], (wide + 2, high + 2))
        for wide, high in ((11, 10), (10, 11), (11, 11), (11, 1), (1, 11), (12, 12), (12, 1), (1, 12), (13, 3)):
            with self.assertRaises(OffFloor):
                walled((wide, high, ()))

    def test_walled_twice(self):
        self.assertEqual(walled(walled((1, 1, ()))), drawn_floor("##### ##### ##.## ##### #####"))
        with self.assertRaises(OffFloor):
            walled(walled((10, 3, ())))


class ForAllFloors(unittest.TestCase):
    def test_cut_apart_and_put_together_again(self):
        for floor in SMALL_FLOORS + LARGE_FLOORS:
            wide, high = floor[0], floor[1]
            for x in range(1, wide):
                left = part_of(floor, (0, 0), (x - 1, high - 1))
                right = part_of(floor, (x, high - 1), (wide - 1, 0))
                self.assertEqual(set_right(left, right), floor)
            for y in range(1, high):
                above = part_of(floor, (0, y - 1), (wide - 1, 0))
                below = part_of(floor, (0, y), (wide - 1, high - 1))
                self.assertEqual(set_below(above, below), floor)

    def test_put_together_and_cut_apart_again(self):
        for one, other in itertools.product(SMALL_FLOORS, repeat=2):
            if one[1] == other[1] and one[0] + other[0] <= 12:
                told = set_right(one, other)
                self.assertEqual(part_of(told, (0, 0), (one[0] - 1, one[1] - 1)), one)
                self.assertEqual(part_of(told, (one[0], 0), (told[0] - 1, one[1] - 1)), other)
                self.assertEqual(mirrored(told), set_right(mirrored(other), mirrored(one)))

    def test_a_floor_within_walls_sees_what_it_saw(self):
        for floor in SMALL_FLOORS + [scattered(10, 10, 25, 133), scattered(10, 9, 45, 134)]:
            around = walled(floor)
            self.assertEqual(part_of(around, (1, 1), (floor[0], floor[1])), floor)
            couples = [(one_in(one), one_in(other)) for one, other in couples_of(floor)]
            self.assertEqual(couples_of(around), couples)
            self.assertEqual(slow_open(around), [one_in(cell) for cell in slow_open(floor)])
            for cell in slow_open(floor)[::5]:
                seen = [one_in(there) for there in field_of(floor, cell)]
                self.assertEqual(field_of(around, one_in(cell)), seen)


if __name__ == "__main__":
    unittest.main()
