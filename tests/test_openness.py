"""Promise 12.1, and 0.2 (h) and 0.3 as far as they speak of how much cells see."""

import unittest

from helper import (
    BARE,
    FULL,
    ROOMS,
    SMALL_FLOORS,
    cells_beyond,
    drawn_floor,
    flip_cell,
    mirror_cell,
    scattered,
    slow_couples,
    slow_field,
    slow_open,
    whole_area,
)
from lampfloor.errors import InWall, OffFloor
from lampfloor.floors import flipped, mirrored
from lampfloor.openness import blind_pairs, far_seen, most_open, openness, ranks
from lampfloor.sight import couples_of

LARGE = (12, 12, ())
LARGE_FLOORS = [LARGE] + [scattered(12, 12, 20 + 30 * seed, 120 + seed) for seed in range(4)]
GAP = drawn_floor("..#.")


class ByHand(unittest.TestCase):
    def test_openness(self):
        for cell in whole_area(BARE):
            self.assertEqual(openness(BARE, cell), 12)
        self.assertEqual([openness(GAP, cell) for cell in slow_open(GAP)], [2, 2, 1])
        self.assertEqual(openness(drawn_floor(".# #."), (0, 0)), 1)
        self.assertEqual(openness(drawn_floor(".# .."), (0, 0)), 3)
        self.assertEqual(openness((1, 1, ()), (0, 0)), 1)
        self.assertEqual(openness(LARGE, (5, 0)), 144)

    def test_far_seen(self):
        self.assertEqual(far_seen(BARE, (0, 0)), 13)
        self.assertEqual(far_seen(BARE, (1, 1)), 5)
        self.assertEqual(far_seen(GAP, (0, 0)), 1)
        self.assertEqual(far_seen(GAP, (3, 0)), 0)
        self.assertEqual(far_seen((1, 1, ()), (0, 0)), 0)
        self.assertEqual(far_seen((1, 12, ()), (0, 11)), 121)
        self.assertEqual(far_seen(LARGE, (11, 0)), 242)

    def test_walls_are_not_counted(self):
        self.assertEqual(openness(drawn_floor(".#"), (0, 0)), 1)
        self.assertEqual(far_seen(drawn_floor(".#"), (0, 0)), 0)
        self.assertEqual(far_seen(drawn_floor("..#"), (0, 0)), 1)

    def test_ranks(self):
        self.assertEqual(ranks(GAP), [(2, ((0, 0), (1, 0))), (1, ((3, 0),))])
        self.assertEqual(ranks(BARE), [(12, tuple(whole_area(BARE)))])
        self.assertEqual(ranks(drawn_floor("..# .#.")), [(3, ((0, 0), (0, 1), (1, 0))), (1, ((2, 1),))])
        self.assertEqual(ranks(drawn_floor(".#.. .###")), [(2, ((0, 0), (0, 1), (2, 0), (3, 0)))])
        self.assertEqual(ranks((1, 1, ())), [(1, ((0, 0),))])

    def test_most_open(self):
        self.assertEqual(most_open(GAP), (0, 0))
        self.assertEqual(most_open(drawn_floor(".#..")), (2, 0))
        self.assertEqual(most_open(drawn_floor("... .#. ###")), (1, 0))
        self.assertEqual(most_open(drawn_floor(".#.")), (0, 0))
        self.assertEqual(most_open(drawn_floor(".#. ... .#.")), (1, 1))
        self.assertEqual(most_open((1, 1, ())), (0, 0))

    def test_blind_pairs(self):
        self.assertEqual(blind_pairs(GAP), 2)
        self.assertEqual(blind_pairs(BARE), 0)
        self.assertEqual(blind_pairs(LARGE), 0)
        self.assertEqual(blind_pairs(drawn_floor(".# #.")), 1)
        self.assertEqual(blind_pairs(drawn_floor(".#.#.")), 3)
        self.assertEqual(blind_pairs((1, 1, ())), 0)

    def test_without_open_cells(self):
        for floor in (FULL, (1, 1, ((0, 0),))):
            self.assertEqual(ranks(floor), [])
            self.assertIsNone(most_open(floor))
            self.assertEqual(blind_pairs(floor), 0)

    def test_a_floor_somewhat_too_large_is_not_refused(self):
        self.assertEqual(openness((14, 1, ()), (0, 0)), 14)
        self.assertEqual(far_seen((14, 1, ()), (0, 0)), 169)
        self.assertEqual(most_open((14, 1, ((0, 0),))), (1, 0))


class AgainstTheWords(unittest.TestCase):
    def test_all(self):
        for floor in SMALL_FLOORS:
            cells = slow_open(floor)
            many = {cell: len(slow_field(floor, cell)) for cell in cells}
            for cell in cells:
                self.assertEqual(openness(floor, cell), many[cell])
                squares = [(cell[0] - x) ** 2 + (cell[1] - y) ** 2 for x, y in slow_field(floor, cell)]
                self.assertEqual(far_seen(floor, cell), max(squares), (floor, cell))
            falling = sorted(set(many.values()), reverse=True)
            told = [(number, tuple(cell for cell in cells if many[cell] == number)) for number in falling]
            self.assertEqual(ranks(floor), told, floor)
            self.assertEqual(most_open(floor), max(cells, key=lambda cell: many[cell]) if cells else None)
            pairs = [(one, other) for one in cells for other in cells if one < other]
            self.assertEqual(blind_pairs(floor), len(pairs) - len(slow_couples(floor)))


class ForAllFloors(unittest.TestCase):
    def test_what_all_see_comes_to_all_cells_and_all_couples_twice(self):
        for floor in SMALL_FLOORS + LARGE_FLOORS:
            cells = slow_open(floor)
            couples = len(couples_of(floor))
            self.assertEqual(sum(openness(floor, cell) for cell in cells), len(cells) + 2 * couples)
            self.assertEqual(sum(many * len(those) for many, those in ranks(floor)), len(cells) + 2 * couples)
            self.assertEqual(blind_pairs(floor) + couples, len(cells) * (len(cells) - 1) // 2)

    def test_ranks_hold_all_cells_once(self):
        for floor in SMALL_FLOORS + LARGE_FLOORS:
            told = ranks(floor)
            self.assertEqual(sorted(cell for _, cells in told for cell in cells), slow_open(floor))
            self.assertEqual([many for many, _ in told], sorted({many for many, _ in told}, reverse=True))
            for many, cells in told:
                self.assertEqual(list(cells), sorted(cells))
                for cell in cells:
                    self.assertEqual(openness(floor, cell), many)
            if told:
                self.assertEqual(most_open(floor), min(told[0][1]))

    def test_mirrored_and_flipped(self):
        for floor in SMALL_FLOORS + LARGE_FLOORS[3:]:
            for turned_over, moved in ((mirrored(floor), mirror_cell), (flipped(floor), flip_cell)):
                self.assertEqual(blind_pairs(turned_over), blind_pairs(floor))
                for cell in slow_open(floor):
                    self.assertEqual(openness(turned_over, moved(floor, cell)), openness(floor, cell))
                    self.assertEqual(far_seen(turned_over, moved(floor, cell)), far_seen(floor, cell))


class Refusals(unittest.TestCase):
    def test_off_the_floor(self):
        for asked in (openness, far_seen):
            for floor in (ROOMS, FULL):
                for cell in cells_beyond(floor):
                    with self.assertRaises(OffFloor):
                        asked(floor, cell)

    def test_in_a_wall(self):
        for asked in (openness, far_seen):
            for floor in (ROOMS, FULL):
                for wall in floor[2]:
                    with self.assertRaises(InWall):
                        asked(floor, wall)


class NothingIsKept(unittest.TestCase):
    def test_a_new_list_each_time(self):
        told = ranks(ROOMS)
        before = list(told)
        told.clear()
        self.assertEqual(ranks(ROOMS), before)

    def test_kinds(self):
        self.assertIs(ranks(ROOMS).__class__, list)
        for rank in ranks(ROOMS):
            self.assertIs(rank.__class__, tuple)
            self.assertEqual([part.__class__ for part in rank], [int, tuple])


if __name__ == "__main__":
    unittest.main()
