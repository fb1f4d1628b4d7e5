"""Promise 8.3, and 0.2 (e) and 0.3 as far as they speak of tours."""

import unittest

from helper import (
    BARE,
    FULL,
    ROOMS,
    SMALL_FLOORS,
    STEPS,
    cells_beyond,
    drawn_floor,
    gone,
    scattered,
    slow_far,
    slow_open,
    slow_seen_from,
    slow_way,
    whole_area,
)
from lampfloor.errors import InWall, OffFloor
from lampfloor.touring import toured

FLOORS = SMALL_FLOORS + [scattered(7, 6, 14 + seed % 6, 20 + seed) for seed in range(12)]


def slow_toured(floor, start):
    cell, way = start, ""
    known = set(slow_seen_from(floor, start))
    while True:
        ground = [there for there in slow_open(floor) if there in known]
        far = slow_far(ground, cell)
        goals = []
        for there in far:
            around = [gone(there, word)[1] for word in STEPS]
            if any(side in whole_area(floor) and side not in known for side in around):
                goals.append(there)
        if not goals:
            return (way, sorted(known))
        nearest = min(far[goal] for goal in goals)
        ahead = slow_way(ground, cell, min(goal for goal in goals if far[goal] == nearest))
        for stood in gone(cell, ahead):
            known.update(slow_seen_from(floor, stood))
        way, cell = way + ahead, gone(cell, ahead)[-1]


class ByHand(unittest.TestCase):
    def test_nothing_to_find_out(self):
        self.assertEqual(toured((1, 1, ()), (0, 0)), ("", [(0, 0)]))
        self.assertEqual(toured(BARE, (2, 1)), ("", whole_area(BARE)))
        self.assertEqual(toured(drawn_floor(".#."), (0, 0)), ("", [(0, 0), (1, 0)]))

    def test_around_a_bend(self):
        floor = drawn_floor("... ##. ...")
        self.assertEqual(toured(floor, (0, 0)), ("eess", whole_area(floor)))

    def test_the_least_of_several_that_are_as_near(self):
        floor = drawn_floor("""
            .###.
            .....
            .###.
        """)
        way, known = toured(floor, (2, 1))
        self.assertEqual(known, whole_area(floor))
        self.assertEqual(way[0], "w")

    def test_the_first_of_the_ways(self):
        floor = drawn_floor("""
            ..##
            ..##
            #...
            ####
        """)
        self.assertEqual(toured(floor, (0, 0))[0], "esse")

    def test_cells_that_cannot_be_reached(self):
        floor = drawn_floor("""
            ..##.
            ..#..
            ###..
        """)
        known = [(0, 0), (0, 1), (0, 2), (1, 0), (1, 1), (1, 2), (2, 0), (2, 1)]
        self.assertEqual(toured(floor, (0, 0)), ("", known))
        self.assertNotIn((2, 2), known)

    def test_a_floor_somewhat_too_large_is_not_refused(self):
        self.assertEqual(toured((13, 1, ()), (0, 0)), ("", [(x, 0) for x in range(13)]))


class AgainstTheWords(unittest.TestCase):
    def test_all(self):
        for floor in FLOORS:
            for cell in slow_open(floor)[::3]:
                self.assertEqual(toured(floor, cell), slow_toured(floor, cell), (floor, cell))


class ForAllTours(unittest.TestCase):
    def test_nothing_is_left_to_find_out(self):
        for floor in FLOORS:
            cells = slow_open(floor)
            for cell in cells[::5]:
                way, known = toured(floor, cell)
                reached = slow_far(cells, cell)
                self.assertEqual([stood for stood in gone(cell, way) if stood not in cells], [])
                for stood in (reached, gone(cell, way)):
                    seen = {there for one in stood for there in slow_seen_from(floor, one)}
                    self.assertEqual(known, sorted(seen))

    def test_kinds(self):
        told = toured(ROOMS, (0, 0))
        self.assertIs(told.__class__, tuple)
        self.assertEqual([part.__class__ for part in told], [str, list])

    def test_new_lists_each_time(self):
        told = toured(ROOMS, (0, 0))
        before = (told[0], list(told[1]))
        told[1].clear()
        self.assertEqual(toured(ROOMS, (0, 0)), before)


class Refusals(unittest.TestCase):
    def test_off_the_floor(self):
        for floor in (ROOMS, FULL):
            for cell in cells_beyond(floor):
                with self.assertRaises(OffFloor):
                    toured(floor, cell)

    def test_in_a_wall(self):
        for floor in (ROOMS, FULL):
            for wall in floor[2]:
                with self.assertRaises(InWall):
                    toured(floor, wall)


if __name__ == "__main__":
    unittest.main()
