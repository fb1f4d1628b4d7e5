"""Promises 3.1, 3.2, 3.3, and 0.2 (a), (b) and 0.3 as far as they speak of sight."""

import unittest

from helper import (
    BARE,
    FULL,
    ROOMS,
    SMALL_FLOORS,
    cells_beyond,
    drawn_floor,
    flip_cell,
    mirror_cell,
    scattered,
    slow_couples,
    slow_field,
    slow_met,
    slow_open,
    slow_seen_from,
    slow_sees,
    whole_area,
)
from lampfloor.errors import InWall, OffFloor
from lampfloor.floors import flipped, mirrored, with_solid
from lampfloor.sight import couples_of, field_of, seen_by_all, seen_by_any, seen_from, sees

CAGE = drawn_floor("""
    .#.
    #.#
    .#.
""")
LARGE = scattered(12, 12, 40, 7)


class SeesByHand(unittest.TestCase):
    def both_ways(self, floor, one, other, told):
        self.assertIs(sees(floor, one, other), told, (floor, one, other))
        self.assertIs(sees(floor, other, one), told, (floor, other, one))

    def test_an_open_cell_and_itself(self):
        for cell in slow_open(ROOMS):
            self.assertIs(sees(ROOMS, cell, cell), True)

    def test_a_wall_and_itself(self):
        for wall in ROOMS[2]:
            self.assertIs(sees(ROOMS, wall, wall), False)

    def test_cells_beside_each_other(self):
        self.both_ways(CAGE, (1, 1), (1, 0), False)
        self.both_ways(BARE, (1, 1), (1, 0), True)
        self.both_ways(BARE, (1, 1), (2, 1), True)

    def test_a_wall_at_one_end_or_both(self):
        floor = drawn_floor("..# ...")
        self.both_ways(floor, (0, 0), (2, 0), False)
        self.both_ways(floor, (0, 1), (2, 0), False)
        self.both_ways(drawn_floor("#.#"), (0, 0), (2, 0), False)

    def test_a_wall_between(self):
        floor = drawn_floor(".#. ...")
        self.both_ways(floor, (0, 0), (2, 0), False)
        self.both_ways(floor, (0, 1), (2, 1), True)
        self.both_ways(floor, (0, 0), (2, 1), False)
        self.both_ways(floor, (0, 0), (0, 1), True)

    def test_a_corner_with_one_wall_or_two(self):
        self.both_ways(drawn_floor(".. .."), (0, 0), (1, 1), True)
        self.both_ways(drawn_floor(".# .."), (0, 0), (1, 1), True)
        self.both_ways(drawn_floor(".. #."), (0, 0), (1, 1), True)
        self.both_ways(drawn_floor(".# #."), (0, 0), (1, 1), False)
        self.both_ways(drawn_floor("#. .#"), (1, 0), (0, 1), False)
        self.both_ways(drawn_floor("#. .."), (1, 0), (0, 1), True)

    def test_a_corner_far_from_both_ends(self):
        self.both_ways(drawn_floor("..#. ...."), (0, 0), (3, 1), True)
        self.both_ways(drawn_floor(".... .#.."), (0, 0), (3, 1), True)
        self.both_ways(drawn_floor("..#. .#.."), (0, 0), (3, 1), False)

    def test_two_corners_with_a_wall_each(self):
        self.both_ways(drawn_floor(".#. ... .#."), (0, 0), (2, 2), True)
        self.both_ways(drawn_floor(".#. ..# ..."), (0, 0), (2, 2), True)
        self.both_ways(drawn_floor("... ..# .#."), (0, 0), (2, 2), False)

    def test_a_floor_somewhat_too_large_is_not_refused(self):
        self.both_ways((14, 1, ()), (0, 0), (13, 0), True)
        self.both_ways((14, 1, ((12, 0),)), (0, 0), (13, 0), False)


class SeenFromByHand(unittest.TestCase):
    def test_in_a_cage(self):
        self.assertEqual(seen_from(CAGE, (1, 1)), [(0, 1), (1, 0), (1, 1), (1, 2), (2, 1)])
        self.assertEqual(field_of(CAGE, (1, 1)), [(1, 1)])

    def test_a_wall_as_the_last_cell(self):
        floor = drawn_floor("..##")
        self.assertEqual(seen_from(floor, (0, 0)), [(0, 0), (1, 0), (2, 0)])
        self.assertEqual(field_of(floor, (0, 0)), [(0, 0), (1, 0)])

    def test_a_wall_behind_a_corner(self):
        self.assertIn((1, 1), seen_from(drawn_floor(".# .#"), (0, 0)))
        self.assertNotIn((1, 1), seen_from(drawn_floor(".# ##"), (0, 0)))

    def test_a_single_cell(self):
        self.assertEqual(seen_from((1, 1, ()), (0, 0)), [(0, 0)])
        self.assertEqual(field_of((1, 1, ()), (0, 0)), [(0, 0)])

    def test_without_walls_all(self):
        for cell in whole_area(BARE):
            self.assertEqual(seen_from(BARE, cell), whole_area(BARE))
            self.assertEqual(field_of(BARE, cell), whole_area(BARE))


class ManyByHand(unittest.TestCase):
    def test_couples(self):
        self.assertEqual(couples_of(drawn_floor("..#.")), [((0, 0), (1, 0))])
        self.assertEqual(couples_of(drawn_floor(".# #.")), [])
        self.assertEqual(
            couples_of(drawn_floor(".# ..")),
            [((0, 0), (0, 1)), ((0, 0), (1, 1)), ((0, 1), (1, 1))],
        )

    def test_without_open_cells(self):
        self.assertEqual(couples_of(FULL), [])
        self.assertEqual(seen_by_all(FULL, []), [])
        self.assertEqual(seen_by_any(FULL, []), [])

    def test_seen_by_all_and_any(self):
        floor = drawn_floor("... .#.")
        self.assertEqual(seen_by_all(floor, [(2, 1), (0, 1)]), [(1, 0)])
        self.assertEqual(seen_by_any(floor, [(2, 1), (0, 1)]), [(0, 0), (0, 1), (1, 0), (2, 0), (2, 1)])
        floor = drawn_floor("..... .###.")
        self.assertEqual(seen_by_all(floor, [(0, 1), (4, 1)]), [])
        self.assertEqual(
            seen_by_any(floor, [(0, 1), (4, 1)]),
            [(0, 0), (0, 1), (1, 0), (3, 0), (4, 0), (4, 1)],
        )

    def test_an_empty_list(self):
        for floor in SMALL_FLOORS:
            self.assertEqual(seen_by_all(floor, []), slow_open(floor))
            self.assertEqual(seen_by_any(floor, []), [])

    def test_one_cell_twice(self):
        field = field_of(ROOMS, (0, 3))
        self.assertEqual(seen_by_all(ROOMS, [(0, 3), (0, 3)]), field)
        self.assertEqual(seen_by_any(ROOMS, [(0, 3), (0, 3)]), field)


class AgainstTheWords(unittest.TestCase):
    def test_sees(self):
        for floor in SMALL_FLOORS:
            for one in whole_area(floor):
                for other in whole_area(floor):
                    self.assertIs(sees(floor, one, other), slow_sees(floor, one, other), (floor, one, other))

    def test_seen_from_and_field_of(self):
        for floor in SMALL_FLOORS:
            for cell in slow_open(floor):
                self.assertEqual(seen_from(floor, cell), slow_seen_from(floor, cell), (floor, cell))
                self.assertEqual(field_of(floor, cell), slow_field(floor, cell), (floor, cell))

    def test_couples_of(self):
        for floor in SMALL_FLOORS + [LARGE]:
            self.assertEqual(couples_of(floor), slow_couples(floor), floor)

    def test_seen_by_all_and_any(self):
        for floor in SMALL_FLOORS:
            cells = slow_open(floor)
            for some in (cells, cells[::-1], cells[:1], cells[1:3], cells[-2:][::-1]):
                fields = [slow_field(floor, cell) for cell in some]
                by_all = [cell for cell in cells if all(cell in field for field in fields)]
                by_any = [cell for cell in cells if any(cell in field for field in fields)]
                self.assertEqual(seen_by_all(floor, some), by_all, (floor, some))
                self.assertEqual(seen_by_any(floor, some), by_any, (floor, some))


class ForAllFloors(unittest.TestCase):
    def test_who_sees_one_is_seen_by_it(self):
        for floor in SMALL_FLOORS:
            for one in slow_open(floor):
                for other in field_of(floor, one):
                    self.assertIn(one, field_of(floor, other))

    def test_mirrored_and_flipped(self):
        for floor in SMALL_FLOORS + [LARGE]:
            for turned, turn in ((mirrored(floor), mirror_cell), (flipped(floor), flip_cell)):
                couples = [tuple(sorted(turn(floor, cell) for cell in couple)) for couple in couples_of(floor)]
                self.assertEqual(couples_of(turned), sorted(couples))
                for cell in slow_open(floor)[:6]:
                    told = sorted(turn(floor, other) for other in seen_from(floor, cell))
                    self.assertEqual(seen_from(turned, turn(floor, cell)), told)

    def test_a_wall_more_never_lets_see_more_and_only_ends_lines_that_meet_it(self):
        for floor in SMALL_FLOORS:
            before = couples_of(floor)
            for cell in slow_open(floor):
                after = couples_of(with_solid(floor, cell))
                self.assertEqual([couple for couple in after if couple not in before], [])
                for one, other in before:
                    if (one, other) not in after:
                        self.assertIn(cell, slow_met(one, other))


class Refusals(unittest.TestCase):
    def test_cells_off_the_floor(self):
        for cell in cells_beyond(ROOMS):
            for ends in ((cell, (0, 0)), ((0, 0), cell), (cell, cell), (cell, (2, 0)), ((2, 0), cell)):
                with self.assertRaises(OffFloor):
                    sees(ROOMS, *ends)
            for asked in (seen_from, field_of):
                with self.assertRaises(OffFloor):
                    asked(ROOMS, cell)

    def test_walls(self):
        for floor in SMALL_FLOORS:
            for wall in floor[2]:
                for asked in (seen_from, field_of):
                    with self.assertRaises(InWall):
                        asked(floor, wall)

    def test_the_first_in_a_list(self):
        fine, wall, off = (0, 0), (2, 0), (6, 0)
        for asked in (seen_by_all, seen_by_any):
            for cells, refusal in (
                ([off], OffFloor),
                ([wall], InWall),
                ([off, wall], OffFloor),
                ([wall, off], InWall),
                ([fine, off, wall], OffFloor),
                ([fine, wall, off], InWall),
                ([fine, fine, wall], InWall),
            ):
                with self.subTest(asked=asked.__name__, cells=cells):
                    before = list(cells)
                    with self.assertRaises(refusal):
                        asked(ROOMS, cells)
                    self.assertEqual(cells, before)


class NothingIsKept(unittest.TestCase):
    def test_new_lists_each_time(self):
        for asked in (
            lambda: seen_from(ROOMS, (0, 0)),
            lambda: field_of(ROOMS, (0, 0)),
            lambda: couples_of(ROOMS),
            lambda: seen_by_all(ROOMS, [(0, 0)]),
            lambda: seen_by_any(ROOMS, [(0, 0)]),
            lambda: seen_by_all(ROOMS, []),
        ):
            told = asked()
            before = list(told)
            self.assertIs(told.__class__, list)
            told.clear()
            self.assertEqual(asked(), before)

    def test_what_is_handed_in_is_not_changed(self):
        cells = [(3, 1), (0, 0), (3, 1)]
        seen_by_all(ROOMS, cells)
        seen_by_any(ROOMS, cells)
        self.assertEqual(cells, [(3, 1), (0, 0), (3, 1)])


if __name__ == "__main__":
    unittest.main()
