"""Promises 6.1, 6.2, and 0.2 (c) and 0.3 as far as they speak of lamps."""

import copy
import itertools
import random
import unittest
from fractions import Fraction

from helper import (
    BARE,
    DEEP,
    FULL,
    NO_TUPLES,
    ROOMS,
    SMALL_FLOORS,
    cells_beyond,
    drawn_floor,
    nested,
    slow_open,
    slow_sees,
    whole_area,
)
from lampfloor.errors import InWall, OffFloor
from lampfloor.lamps import dark_cells, is_lamp, light_at, lightest, lit_cells


def slow_light(floor, lamps, cell):
    light = Fraction(0)
    for spot, strength in lamps:
        if slow_sees(floor, spot, cell):
            light += Fraction(strength, 1 + (spot[0] - cell[0]) ** 2 + (spot[1] - cell[1]) ** 2)
    return light


def told(fraction):
    return (fraction.numerator, fraction.denominator)


def some_lamps(floor):
    """Lists of lamps, the empty one too, and one with two lamps in one cell."""
    chance = random.Random(len(floor[2]))
    cells = slow_open(floor)
    lists = [[]]
    for many in (1, 2, 3, 6):
        if cells:
            lists.append([(chance.choice(cells), chance.randint(1, 99)) for _ in range(many)])
    if cells:
        lists.append([(cells[0], 5), (cells[0], 5)])
    return lists


class IsLamp(unittest.TestCase):
    def test_lamps(self):
        for strength in range(1, 100):
            self.assertIs(is_lamp(((0, 0), strength)), True)
        for cell in [(11, 11), (12, 40), (-1, 3), (3, -1), (10 ** 20, -(10 ** 20))]:
            self.assertIs(is_lamp((cell, 7)), True)

    def test_strengths_beyond(self):
        for strength in (0, -1, -99, 100, 101, 10 ** 20):
            self.assertIs(is_lamp(((0, 0), strength)), False)

    def test_truths_are_no_whole_numbers(self):
        for thing in [((0, 0), True), ((True, 0), 1), ((0, True), 1), ((False, 0), 1), ((0, False), 1), (True, True)]:
            self.assertIs(is_lamp(thing), False, thing)

    def test_lists_are_no_tuples(self):
        for thing in [[(0, 0), 1], ([0, 0], 1), [[0, 0], 1]]:
            self.assertIs(is_lamp(thing), False, thing)

    def test_too_short_and_too_long(self):
        wrong = [(), ((0, 0),), ((0, 0), 1, 1), ((), 1), ((0,), 1), ((0, 0, 0), 1), (0, 0), (0, 0, 1), (1, (0, 0))]
        for thing in wrong:
            self.assertIs(is_lamp(thing), False, thing)

    def test_other_things_in_each_place(self):
        deep = DEEP + [nested(make, 12) for make in (list, tuple)]
        for thing in NO_TUPLES + deep + ["((0, 0), 1)", (None, None), ("00", 1)]:
            before = copy.deepcopy(thing)
            self.assertIs(is_lamp(thing), False, thing)
            self.assertIs(is_lamp((thing, 1)), False, thing)
            self.assertIs(is_lamp((1, thing)), False, thing)
            if thing not in (0, 1, -1, 12):
                self.assertIs(is_lamp(((0, thing), 1)), False, thing)
                self.assertIs(is_lamp(((thing, 0), 1)), False, thing)
            if thing.__class__ is not int:
                self.assertIs(is_lamp(((0, 0), thing)), False, thing)
            self.assertEqual(thing, before)


class LightByHand(unittest.TestCase):
    def test_by_how_far(self):
        for cell, light in [((0, 0), (10, 1)), ((1, 0), (5, 1)), ((0, 1), (5, 1)), ((1, 1), (10, 3)), ((2, 0), (2, 1))]:
            self.assertEqual(light_at(BARE, [((0, 0), 10)], cell), light)
        self.assertEqual(light_at(BARE, [((0, 0), 10)], (3, 2)), (5, 7))
        self.assertEqual(light_at(BARE, [((0, 0), 99)], (3, 2)), (99, 14))

    def test_no_lamps(self):
        for cell in whole_area(ROOMS):
            self.assertEqual(light_at(ROOMS, [], cell), (0, 1))

    def test_no_light_in_or_behind_a_wall(self):
        floor = drawn_floor("..#.")
        self.assertEqual(light_at(floor, [((0, 0), 8)], (1, 0)), (4, 1))
        self.assertEqual(light_at(floor, [((0, 0), 8)], (2, 0)), (0, 1))
        self.assertEqual(light_at(floor, [((0, 0), 8)], (3, 0)), (0, 1))

    def test_corners(self):
        self.assertEqual(light_at(drawn_floor(".# .."), [((0, 0), 6)], (1, 1)), (2, 1))
        self.assertEqual(light_at(drawn_floor(".# #."), [((0, 0), 6)], (1, 1)), (0, 1))

    def test_added(self):
        lamps = [((0, 0), 1), ((2, 0), 1)]
        self.assertEqual(light_at(BARE, lamps, (0, 0)), (6, 5))
        self.assertEqual(light_at(BARE, lamps, (1, 0)), (1, 1))
        self.assertEqual(light_at(BARE, [((0, 0), 1), ((3, 0), 1)], (1, 0)), (7, 10))
        self.assertEqual(light_at(BARE, [((1, 1), 3), ((1, 1), 4)], (1, 1)), (7, 1))

    def test_a_strength_somewhat_beyond_is_not_refused(self):
        self.assertEqual(light_at(BARE, [((0, 0), 100)], (1, 0)), (50, 1))
        self.assertEqual(light_at(BARE, [((0, 0), 0)], (1, 0)), (0, 1))


class CellsByHand(unittest.TestCase):
    def test_lit_cells(self):
        floor = (5, 1, ())
        lamps = [((0, 0), 10)]
        self.assertEqual(lit_cells(floor, lamps, (10, 1)), [(0, 0)])
        self.assertEqual(lit_cells(floor, lamps, (11, 1)), [])
        self.assertEqual(lit_cells(floor, lamps, (2, 1)), [(0, 0), (1, 0), (2, 0)])
        self.assertEqual(lit_cells(floor, lamps, (201, 100)), [(0, 0), (1, 0)])
        self.assertEqual(lit_cells(floor, lamps, (10, 17)), [(x, 0) for x in range(5)])

    def test_none_at_all_is_no_less_than_none(self):
        for floor in SMALL_FLOORS:
            self.assertEqual(lit_cells(floor, [], (0, 1)), slow_open(floor))
            self.assertEqual(lit_cells(floor, [], (1, 1000)), [])

    def test_dark_cells(self):
        self.assertEqual(dark_cells(drawn_floor("..#.."), [((0, 0), 1)]), [(3, 0), (4, 0)])
        self.assertEqual(dark_cells(drawn_floor("..#.."), []), [(0, 0), (1, 0), (3, 0), (4, 0)])
        self.assertEqual(dark_cells(BARE, [((0, 0), 1)]), [])

    def test_lightest(self):
        self.assertEqual(lightest(BARE, [((2, 1), 1)]), (2, 1))
        self.assertEqual(lightest(BARE, [((2, 1), 2), ((3, 2), 3)]), (3, 2))

    def test_the_first_of_several_lightest(self):
        self.assertEqual(lightest(BARE, [((3, 0), 4), ((0, 2), 4)]), (0, 2))
        self.assertEqual(lightest(drawn_floor("#. .."), []), (0, 1))
        self.assertEqual(lightest(drawn_floor("..#.."), [((4, 0), 4), ((1, 0), 4)]), (1, 0))

    def test_between_two_lamps(self):
        self.assertEqual(lightest((2, 2, ()), [((0, 0), 9), ((1, 1), 9), ((1, 0), 1)]), (0, 0))
        self.assertEqual(lightest((3, 3, ()), [((0, 1), 3), ((2, 1), 3), ((1, 0), 3), ((1, 2), 3)]), (1, 1))

    def test_without_open_cells(self):
        self.assertIsNone(lightest(FULL, []))
        self.assertEqual(lit_cells(FULL, [], (0, 1)), [])
        self.assertEqual(dark_cells(FULL, []), [])


class AgainstTheWords(unittest.TestCase):
    def test_all(self):
        for floor in SMALL_FLOORS:
            for lamps in some_lamps(floor):
                lights = {cell: slow_light(floor, lamps, cell) for cell in whole_area(floor)}
                for cell in whole_area(floor):
                    self.assertEqual(light_at(floor, lamps, cell), told(lights[cell]), (floor, lamps, cell))
                cells = slow_open(floor)
                for least in sorted({lights[cell] for cell in cells} | {Fraction(1, 7), Fraction(3)}):
                    lit = [cell for cell in cells if lights[cell] >= least]
                    self.assertEqual(lit_cells(floor, lamps, told(least)), lit)
                self.assertEqual(dark_cells(floor, lamps), [cell for cell in cells if lights[cell] == 0])
                best = max(cells, key=lambda cell: lights[cell]) if cells else None
                self.assertEqual(lightest(floor, lamps), best)


class ForAllLamps(unittest.TestCase):
    def test_whatever_the_order(self):
        lamps = [((0, 0), 7), ((3, 1), 10), ((0, 3), 99), ((5, 4), 13)]
        for cell in whole_area(ROOMS):
            lights = {light_at(ROOMS, list(order), cell) for order in itertools.permutations(lamps)}
            self.assertEqual(len(lights), 1)

    def test_a_lamp_lights_a_cell_as_one_there_would_light_it(self):
        for floor in SMALL_FLOORS:
            for one in slow_open(floor):
                for other in slow_open(floor):
                    there = light_at(floor, [(one, 12)], other)
                    self.assertEqual(there, light_at(floor, [(other, 12)], one))


class Refusals(unittest.TestCase):
    def refused(self, refusal, lamps, cell=(0, 0)):
        before = list(lamps)
        for asked in (
            lambda: light_at(ROOMS, lamps, cell),
            lambda: lit_cells(ROOMS, lamps, (1, 1)),
            lambda: dark_cells(ROOMS, lamps),
            lambda: lightest(ROOMS, lamps),
        ):
            with self.assertRaises(refusal, msg=lamps):
                asked()
        self.assertEqual(lamps, before)

    def test_lamps(self):
        for cell in cells_beyond(ROOMS):
            self.refused(OffFloor, [(cell, 1)])
        for wall in ROOMS[2]:
            self.refused(InWall, [(wall, 1)])

    def test_the_first_in_a_list(self):
        fine, wall, off = ((0, 0), 1), ((2, 0), 1), ((6, 0), 1)
        self.refused(OffFloor, [off, wall])
        self.refused(InWall, [wall, off])
        self.refused(OffFloor, [fine, off, wall])
        self.refused(InWall, [fine, fine, wall, off])

    def test_the_lamps_come_before_the_cell(self):
        for cell in cells_beyond(ROOMS):
            self.refused(InWall, [((2, 0), 1)], cell)
            for lamps in ([], [((0, 0), 1)]):
                with self.assertRaises(OffFloor):
                    light_at(ROOMS, lamps, cell)

    def test_all_lamps_where_there_are_no_open_cells(self):
        with self.assertRaises(InWall):
            lightest(FULL, [((0, 0), 1)])
        with self.assertRaises(OffFloor):
            lightest(FULL, [((9, 0), 1)])


class NothingIsKept(unittest.TestCase):
    def test_new_lists_each_time(self):
        lamps = [((5, 4), 3), ((0, 0), 4)]
        for asked in (lambda: lit_cells(ROOMS, lamps, (0, 1)), lambda: dark_cells(ROOMS, [])):
            answer = asked()
            before = list(answer)
            self.assertIs(answer.__class__, list)
            answer.clear()
            self.assertEqual(asked(), before)
        light_at(ROOMS, lamps, (0, 0))
        lightest(ROOMS, lamps)
        self.assertEqual(lamps, [((5, 4), 3), ((0, 0), 4)])


if __name__ == "__main__":
    unittest.main()
