"""Promise 10.1, and 0.2 (f) and 0.3 as far as they speak of chains of signs."""

import itertools
import random
import unittest
from functools import lru_cache

from helper import (
    BARE,
    FULL,
    ROOMS,
    SMALL_FLOORS,
    cells_beyond,
    drawn_floor,
    scattered,
    slow_far,
    slow_field,
    slow_open,
    whole_area,
)
from lampfloor.errors import InWall, NoWay, OffFloor
from lampfloor.relays import halls, relay, rooms

APART = drawn_floor("""
    ..#.
    ..##
    ##..
    .#..
""")
BENT = drawn_floor("""
    ...
    ##.
    ...
""")
MIDDLE_FLOORS = [scattered(6, 6, 12 + seed % 8, seed) for seed in range(20)]
LARGE_FLOORS = [scattered(12, 12, 30 + 12 * seed, 100 + seed) for seed in range(7)]


@lru_cache(maxsize=None)
def fields(floor):
    return {cell: slow_field(floor, cell) for cell in slow_open(floor)}


def is_chain(floor, chain):
    return all(there in fields(floor)[here] for here, there in zip(chain, chain[1:]))


def slow_chains(floor, one, other, many):
    """All chains of so many cells."""
    inner = itertools.product(slow_open(floor), repeat=many - 2) if many > 1 else [()]
    chains = [[one, *cells, other] if many > 1 else [one] for cells in inner]
    return [chain for chain in chains if chain[-1] == other and is_chain(floor, chain)]


def slow_hops(floor, one):
    """How many signs it takes from the one to each cell to which signs come."""
    hops, last = {one: 0}, [one]
    while last:
        fresh = {there for cell in last for there in fields(floor)[cell] if there not in hops}
        hops.update({cell: hops[last[0]] + 1 for cell in fresh})
        last = sorted(fresh)
    return hops


def slow_groups(floor, together):
    groups = []
    for cell in slow_open(floor):
        if not any(cell in group for group in groups):
            groups.append(sorted(together(cell)))
    return groups


class RelayByHand(unittest.TestCase):
    def test_one_and_the_same(self):
        self.assertEqual(relay(BARE, (2, 1), (2, 1)), [(2, 1)])
        self.assertEqual(relay((1, 1, ()), (0, 0), (0, 0)), [(0, 0)])

    def test_who_sees_the_other_hands_it_on_at_once(self):
        self.assertEqual(relay(BARE, (0, 0), (3, 2)), [(0, 0), (3, 2)])
        self.assertEqual(relay((12, 12, ()), (11, 0), (0, 11)), [(11, 0), (0, 11)])

    def test_around_a_bend(self):
        self.assertEqual(relay(BENT, (0, 0), (0, 2)), [(0, 0), (2, 0), (2, 2), (0, 2)])
        self.assertEqual(relay(BENT, (0, 2), (0, 0)), [(0, 2), (2, 2), (2, 0), (0, 0)])
        self.assertEqual(relay(BENT, (0, 0), (2, 1)), [(0, 0), (1, 0), (2, 1)])

    def test_the_least_of_several(self):
        block = drawn_floor("""
            ...
            .#.
            ...
        """)
        for chain in (
            [(0, 0), (0, 2), (2, 2)],
            [(2, 2), (0, 2), (0, 0)],
            [(0, 1), (1, 0), (2, 1)],
            [(2, 1), (1, 0), (0, 1)],
            [(1, 0), (0, 1), (1, 2)],
        ):
            self.assertEqual(relay(block, chain[0], chain[-1]), chain)

    def test_a_cell_to_which_no_signs_come(self):
        for floor, one, other in (
            (drawn_floor("..#.."), (0, 0), (3, 0)),
            (drawn_floor(".# #."), (0, 0), (1, 1)),
            (APART, (1, 1), (2, 2)),
            (APART, (0, 3), (0, 0)),
        ):
            with self.assertRaises(NoWay):
                relay(floor, one, other)


class RelayAgainstTheWords(unittest.TestCase):
    def test_all(self):
        chance = random.Random(101)
        for floor in SMALL_FLOORS + [BENT, APART]:
            cells = slow_open(floor)
            for _ in range(12 if cells else 0):
                one, other = chance.choice(cells), chance.choice(cells)
                hops = slow_hops(floor, one)
                if other in hops and hops[other] <= 3:
                    chains = slow_chains(floor, one, other, hops[other] + 1)
                    self.assertEqual(relay(floor, one, other), min(chains), (floor, one, other))
                    fewer = [slow_chains(floor, one, other, many) for many in range(1, hops[other] + 1)]
                    self.assertEqual([chains for chains in fewer if chains], [])

    def test_a_chain_is_one_and_none_is_shorter(self):
        for floor in SMALL_FLOORS + MIDDLE_FLOORS + LARGE_FLOORS[5:]:
            for one in slow_open(floor)[::7]:
                hops = slow_hops(floor, one)
                for other in slow_open(floor)[::5]:
                    self.same(floor, hops, one, other)

    def same(self, floor, hops, one, other):
        if other not in hops:
            with self.assertRaises(NoWay):
                relay(floor, one, other)
            return
        chain = relay(floor, one, other)
        self.assertEqual((chain[0], chain[-1], len(chain)), (one, other, hops[other] + 1))
        self.assertTrue(is_chain(floor, chain), (floor, chain))
        # Of the cells from which so many signs are left, the least that sees the one before is the next.
        left = slow_hops(floor, other)
        for number, here in enumerate(chain[:-1]):
            nexts = [cell for cell in fields(floor)[here] if left[cell] == left[here] - 1]
            self.assertEqual(chain[number + 1], min(nexts), (floor, one, other))


class RoomsByHand(unittest.TestCase):
    def test_some(self):
        apart = [[(0, 0), (0, 1), (1, 0), (1, 1)], [(0, 3)], [(2, 2), (2, 3), (3, 2), (3, 3)], [(3, 0)]]
        for asked in (rooms, halls):
            self.assertEqual(asked(APART), apart)
            self.assertEqual(asked(BARE), [whole_area(BARE)])
            self.assertEqual(asked(drawn_floor(".# #.")), [[(0, 0)], [(1, 1)]])
            self.assertEqual(asked(drawn_floor(".# ..")), [[(0, 0), (0, 1), (1, 1)]])
            self.assertEqual(asked((1, 5, ((0, 2),))), [[(0, 0), (0, 1)], [(0, 3), (0, 4)]])

    def test_in_the_order_of_their_first_cells(self):
        floor = drawn_floor("""
            #.#.
            ####
            .#..
        """)
        for asked in (rooms, halls):
            self.assertEqual(asked(floor), [[(0, 2)], [(1, 0)], [(2, 2), (3, 2)], [(3, 0)]])

    def test_a_single_cell_and_none(self):
        for asked in (rooms, halls):
            self.assertEqual(asked((1, 1, ())), [[(0, 0)]])
            self.assertEqual(asked((1, 1, ((0, 0),))), [])
            self.assertEqual(asked(FULL), [])

    def test_on_a_large_floor(self):
        stripes = (12, 12, tuple((x, y) for x in range(1, 12, 2) for y in range(12)))
        for asked in (rooms, halls):
            self.assertEqual(asked((12, 12, ())), [whole_area((12, 12))])
            self.assertEqual(asked(stripes), [[(x, y) for y in range(12)] for x in range(0, 12, 2)])

    def test_a_floor_somewhat_too_large_is_not_refused(self):
        for asked in (rooms, halls):
            self.assertEqual(asked((13, 1, ())), [[(x, 0) for x in range(13)]])


class RoomsAgainstTheWords(unittest.TestCase):
    def test_rooms(self):
        for floor in SMALL_FLOORS + LARGE_FLOORS:
            cells = slow_open(floor)
            self.assertEqual(rooms(floor), slow_groups(floor, lambda cell: slow_far(cells, cell)), floor)

    def test_halls(self):
        for floor in SMALL_FLOORS + MIDDLE_FLOORS + LARGE_FLOORS[5:]:
            self.assertEqual(halls(floor), slow_groups(floor, lambda cell: slow_hops(floor, cell)), floor)

    def test_signs_come_just_where_steps_lead(self):
        for floor in SMALL_FLOORS + MIDDLE_FLOORS + LARGE_FLOORS:
            self.assertEqual(halls(floor), rooms(floor), floor)

    def test_all_open_cells_once(self):
        for floor in SMALL_FLOORS + LARGE_FLOORS:
            for asked in (rooms, halls):
                self.assertEqual(sorted(cell for group in asked(floor) for cell in group), slow_open(floor))


class Refusals(unittest.TestCase):
    fine, wall, off = (0, 0), (2, 0), (6, 0)

    def refused(self, refusal, one, other, floor=ROOMS):
        with self.assertRaises(refusal, msg=(one, other)):
            relay(floor, one, other)

    def test_each(self):
        for cell in cells_beyond(ROOMS):
            self.refused(OffFloor, cell, self.fine)
            self.refused(OffFloor, self.fine, cell)
        for wall in ROOMS[2]:
            self.refused(InWall, wall, self.fine)
            self.refused(InWall, self.fine, wall)
            self.refused(InWall, wall, wall)

    def test_the_one_comes_first(self):
        self.refused(OffFloor, self.off, self.wall)
        self.refused(InWall, self.wall, self.off)

    def test_without_open_cells(self):
        self.refused(InWall, (0, 0), (0, 0), FULL)
        self.refused(OffFloor, (3, 0), (0, 0), FULL)


class NothingIsKept(unittest.TestCase):
    def test_new_lists_each_time(self):
        for asked in (lambda: relay(BENT, (0, 0), (0, 2)), lambda: rooms(APART), lambda: halls(APART)):
            answer = asked()
            before = [list(part) if isinstance(part, list) else part for part in answer]
            self.assertIs(answer.__class__, list)
            if isinstance(answer[0], list):
                answer[0].clear()
            answer.pop()
            self.assertEqual(asked(), before)

    def test_kinds(self):
        for asked in (rooms, halls):
            self.assertEqual({group.__class__ for group in asked(APART)}, {list})


if __name__ == "__main__":
    unittest.main()
