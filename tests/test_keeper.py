"""Promise 5.1, and 0.2 (b) and 0.3 as far as they speak of a keeper."""

import random
import unittest

from helper import (
    FULL,
    ROOMS,
    SMALL_FLOORS,
    cells_beyond,
    drawn_floor,
    scattered,
    slow_couples,
    slow_met,
    slow_open,
    whole_area,
)
from lampfloor.errors import InWall, NotWall, OffFloor
from lampfloor.floors import with_solid, without_solid
from lampfloor.keeper import Keeper
from lampfloor.sight import couples_of, sees


def slow_looks(floor, cell):
    cells = whole_area(floor)
    return len([1 for one in cells for other in cells if one < other and cell in slow_met(one, other)])


def all_told(keeper):
    return (keeper.now(), keeper.seen(), keeper.looked())


class ByHand(unittest.TestCase):
    def test_the_beginning(self):
        for floor in SMALL_FLOORS:
            keeper = Keeper(floor)
            self.assertEqual(keeper.now(), floor)
            self.assertEqual(keeper.seen(), slow_couples(floor))
            self.assertEqual(keeper.looked(), 0)

    def test_a_wall_in_a_row(self):
        keeper = Keeper((3, 1, ()))
        self.assertEqual(
            keeper.put_solid((1, 0)),
            [((0, 0), (1, 0)), ((0, 0), (2, 0)), ((1, 0), (2, 0))],
        )
        self.assertEqual(all_told(keeper), ((3, 1, ((1, 0),)), [], 3))
        self.assertEqual(keeper.put_solid((0, 0)), [])
        self.assertEqual(all_told(keeper), ((3, 1, ((0, 0), (1, 0))), [], 5))
        self.assertEqual(keeper.take_solid((1, 0)), [((1, 0), (2, 0))])
        self.assertEqual(all_told(keeper), ((3, 1, ((0, 0),)), [((1, 0), (2, 0))], 8))

    def test_a_corner(self):
        keeper = Keeper(drawn_floor(".# .."))
        self.assertEqual(keeper.put_solid((0, 1)), [((0, 0), (0, 1)), ((0, 0), (1, 1)), ((0, 1), (1, 1))])
        self.assertEqual(keeper.looked(), 4)
        self.assertEqual(keeper.take_solid((1, 0)), [((0, 0), (1, 0)), ((0, 0), (1, 1)), ((1, 0), (1, 1))])
        self.assertEqual(keeper.looked(), 8)

    def test_a_single_cell(self):
        keeper = Keeper((1, 1, ()))
        self.assertEqual(keeper.put_solid((0, 0)), [])
        self.assertEqual(all_told(keeper), ((1, 1, ((0, 0),)), [], 0))
        self.assertEqual(keeper.take_solid((0, 0)), [])
        self.assertEqual(all_told(keeper), ((1, 1, ()), [], 0))

    def test_do_see(self):
        keeper = Keeper((3, 1, ()))
        self.assertIs(keeper.do_see((0, 0), (2, 0)), True)
        keeper.put_solid((1, 0))
        self.assertIs(keeper.do_see((0, 0), (2, 0)), False)
        self.assertIs(keeper.do_see((2, 0), (0, 0)), False)
        self.assertIs(keeper.do_see((0, 0), (0, 0)), True)
        self.assertIs(keeper.do_see((1, 0), (1, 0)), False)
        keeper.take_solid((1, 0))
        self.assertIs(keeper.do_see((2, 0), (0, 0)), True)


class LookedAt(unittest.TestCase):
    def test_each_cell_put_or_taken(self):
        for floor in SMALL_FLOORS:
            for cell in whole_area(floor):
                keeper = Keeper(floor)
                if cell in floor[2]:
                    keeper.take_solid(cell)
                else:
                    keeper.put_solid(cell)
                self.assertEqual(keeper.looked(), slow_looks(floor, cell), (floor, cell))


class AsLookingAtAllAnew(unittest.TestCase):
    def change_many(self, floor, many, seed):
        chance = random.Random(seed)
        keeper = Keeper(floor)
        looks = 0
        for _ in range(many):
            before = couples_of(floor)
            cell = chance.choice(whole_area(floor))
            if cell in floor[2]:
                told = keeper.take_solid(cell)
                floor = without_solid(floor, cell)
                self.assertEqual(told, [couple for couple in couples_of(floor) if couple not in before])
            else:
                told = keeper.put_solid(cell)
                floor = with_solid(floor, cell)
                after = set(couples_of(floor))
                self.assertEqual(told, [couple for couple in before if couple not in after])
            looks += slow_looks(floor, cell)
            self.assertEqual(all_told(keeper), (floor, couples_of(floor), looks))
            ends = (chance.choice(whole_area(floor)), chance.choice(whole_area(floor)))
            self.assertIs(keeper.do_see(*ends), sees(floor, *ends))

    def test_small_floors(self):
        for seed, floor in enumerate(SMALL_FLOORS):
            self.change_many(floor, 30, seed)

    def test_larger_floors(self):
        self.change_many(scattered(8, 7, 12, 1), 12, 1)
        self.change_many(scattered(7, 8, 30, 2), 12, 2)


class Refusals(unittest.TestCase):
    def refused(self, keeper, refusal, asked, *asked_of):
        before = all_told(keeper)
        with self.assertRaises(refusal, msg=asked_of):
            asked(*asked_of)
        self.assertEqual(all_told(keeper), before)

    def test_off_the_floor(self):
        for keeper in (Keeper(ROOMS), Keeper(FULL)):
            for cell in cells_beyond(keeper.now()):
                self.refused(keeper, OffFloor, keeper.put_solid, cell)
                self.refused(keeper, OffFloor, keeper.take_solid, cell)
                self.refused(keeper, OffFloor, keeper.do_see, cell, (0, 0))
                self.refused(keeper, OffFloor, keeper.do_see, (0, 0), cell)

    def test_a_wall_where_one_is(self):
        keeper = Keeper(ROOMS)
        for wall in ROOMS[2]:
            self.refused(keeper, InWall, keeper.put_solid, wall)
        keeper.put_solid((0, 0))
        self.refused(keeper, InWall, keeper.put_solid, (0, 0))

    def test_no_wall_to_take(self):
        keeper = Keeper(ROOMS)
        for cell in slow_open(ROOMS):
            self.refused(keeper, NotWall, keeper.take_solid, cell)
        keeper.take_solid((2, 0))
        self.refused(keeper, NotWall, keeper.take_solid, (2, 0))


class EachByItself(unittest.TestCase):
    def test_two_keepers_of_one_floor(self):
        one, other = Keeper(ROOMS), Keeper(ROOMS)
        one.put_solid((0, 0))
        self.assertEqual(all_told(other), all_told(Keeper(ROOMS)))

    def test_what_is_told_can_be_changed(self):
        keeper = Keeper((3, 2, ()))
        keeper.seen().clear()
        self.assertEqual(keeper.seen(), couples_of((3, 2, ())))
        keeper.put_solid((1, 0)).clear()
        self.assertEqual(keeper.seen(), couples_of((3, 2, ((1, 0),))))
        keeper.take_solid((1, 0)).clear()
        self.assertEqual(keeper.seen(), couples_of((3, 2, ())))
        self.assertIs(keeper.seen().__class__, list)


if __name__ == "__main__":
    unittest.main()
