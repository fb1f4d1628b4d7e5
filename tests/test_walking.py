"""Promises 8.1, 8.2, and 0.2 (e), (f) and 0.3 as far as they speak of walkers and hidden ways."""

import random
import unittest

from helper import (
    BARE,
    FULL,
    ROOMS,
    SMALL_FLOORS,
    STEPS,
    cells_beyond,
    drawn_floor,
    gone,
    scattered,
    slow_field,
    slow_open,
    slow_seen_from,
    slow_way,
    whole_area,
)
from lampfloor.errors import InWall, NoStep, NoWay, OffFloor
from lampfloor.walking import Walker, hidden_way

BENT = drawn_floor("""
    ...
    ##.
    ...
""")


def all_told(walker):
    return (walker.where(), walker.walked(), walker.knows(), walker.drawn())


def slow_drawn(floor, known):
    def sign(cell):
        return "?" if cell not in known else "#" if cell in floor[2] else "."

    return "\n".join("".join(sign((x, y)) for x in range(floor[0])) for y in range(floor[1]))


class WalkerByHand(unittest.TestCase):
    def test_the_beginning(self):
        walker = Walker(BENT, (0, 0))
        self.assertEqual(walker.where(), (0, 0))
        self.assertEqual(walker.walked(), [(0, 0)])
        self.assertEqual(walker.knows(), [(0, 0), (0, 1), (1, 0), (1, 1), (2, 0)])
        self.assertEqual(walker.drawn(), "...\n##?\n???")

    def test_steps(self):
        walker = Walker(BENT, (0, 0))
        self.assertEqual(walker.step("e"), [(2, 1)])
        self.assertEqual(walker.drawn(), "...\n##.\n???")
        self.assertEqual(walker.step("e"), [(2, 2)])
        self.assertEqual(walker.step("s"), [(1, 2)])
        self.assertEqual(walker.step("n"), [])
        self.assertEqual(walker.where(), (2, 0))
        self.assertEqual(walker.walked(), [(0, 0), (1, 0), (2, 0), (2, 1), (2, 0)])
        self.assertEqual(walker.knows(), [cell for cell in whole_area(BENT) if cell != (0, 2)])
        self.assertEqual(walker.drawn(), "...\n##.\n?..")

    def test_each_step_leads_its_way(self):
        for word, cell in (("n", (1, 0)), ("e", (2, 1)), ("s", (1, 2)), ("w", (0, 1))):
            walker = Walker((3, 3, ()), (1, 1))
            walker.step(word)
            self.assertEqual(walker.where(), cell)

    def test_a_single_cell(self):
        walker = Walker((1, 1, ()), (0, 0))
        self.assertEqual(all_told(walker), ((0, 0), [(0, 0)], [(0, 0)], "."))

    def test_one_row_and_one_column(self):
        self.assertEqual(Walker(drawn_floor("..#."), (0, 0)).drawn(), "..#?")
        self.assertEqual(Walker((1, 3, ((0, 1),)), (0, 0)).drawn(), ".\n#\n?")


class WalkerAgainstTheWords(unittest.TestCase):
    def walk(self, floor, start, chance):
        walker = Walker(floor, start)
        stood = [start]
        known = set(slow_seen_from(floor, start))
        for _ in range(25):
            self.assertEqual(all_told(walker), (stood[-1], stood, sorted(known), slow_drawn(floor, known)))
            word = chance.choice("nesw")
            there = gone(stood[-1], word)[1]
            if there in slow_open(floor):
                fresh = sorted(set(slow_seen_from(floor, there)) - known)
                self.assertEqual(walker.step(word), fresh)
                stood.append(there)
                known.update(fresh)
            else:
                with self.assertRaises(NoStep):
                    walker.step(word)

    def test_many_walks(self):
        chance = random.Random(8)
        for floor in SMALL_FLOORS + [scattered(7, 7, 14, 8)]:
            for start in slow_open(floor)[:4]:
                self.walk(floor, start, chance)


class WalkerRefusals(unittest.TestCase):
    def test_off_the_floor(self):
        for cell in cells_beyond(ROOMS):
            with self.assertRaises(OffFloor):
                Walker(ROOMS, cell)

    def test_in_a_wall(self):
        for floor in (ROOMS, FULL):
            for wall in floor[2]:
                with self.assertRaises(InWall):
                    Walker(floor, wall)

    def test_steps_to_walls_and_off_the_floor_change_nothing(self):
        for floor in SMALL_FLOORS:
            for cell in slow_open(floor):
                walker = Walker(floor, cell)
                before = all_told(walker)
                for word in STEPS:
                    if gone(cell, word)[1] not in slow_open(floor):
                        with self.assertRaises(NoStep):
                            walker.step(word)
                        self.assertEqual(all_told(walker), before)

    def test_words_that_are_no_steps(self):
        walker = Walker((3, 3, ()), (1, 1))
        before = all_told(walker)
        for word in ("", "x", "N", "E", "ne", "nesw", "nn", " ", "n ", "north", "\n"):
            with self.assertRaises(NoStep, msg=word):
                walker.step(word)
            self.assertEqual(all_told(walker), before)


class WalkersByThemselves(unittest.TestCase):
    def test_two_walkers(self):
        one, other = Walker(BENT, (0, 0)), Walker(BENT, (0, 0))
        before = all_told(other)
        one.step("e")
        self.assertEqual(all_told(other), before)

    def test_what_is_told_can_be_changed(self):
        walker = Walker(BENT, (0, 0))
        walker.step("e").clear()
        before = all_told(walker)
        walker.walked().clear()
        walker.knows().clear()
        self.assertEqual(all_told(walker), before)
        self.assertEqual(all_told(walker), ((1, 0), [(0, 0), (1, 0)], walker.knows(), "...\n##.\n???"))
        self.assertIs(walker.walked().__class__, list)
        self.assertIs(walker.knows().__class__, list)


class HiddenWayByHand(unittest.TestCase):
    def test_no_watchers(self):
        self.assertEqual(hidden_way(BENT, [], (0, 0), (0, 2)), "eessww")
        self.assertEqual(hidden_way(BENT, [], (0, 2), (0, 0)), "eennww")

    def test_the_first_of_several(self):
        self.assertEqual(hidden_way((3, 3, ()), [], (0, 0), (2, 2)), "eess")
        self.assertEqual(hidden_way((3, 3, ()), [], (2, 2), (0, 0)), "nnww")
        self.assertEqual(hidden_way((3, 3, ()), [], (0, 2), (2, 0)), "nnee")
        self.assertEqual(hidden_way((3, 3, ()), [], (2, 0), (0, 2)), "ssww")

    def test_one_and_the_same(self):
        self.assertEqual(hidden_way(BENT, [], (0, 0), (0, 0)), "")
        self.assertEqual(hidden_way(BENT, [(0, 2)], (0, 0), (0, 0)), "")
        with self.assertRaises(NoWay):
            hidden_way(BENT, [(2, 0)], (0, 0), (0, 0))

    def test_around_what_is_seen(self):
        floor = drawn_floor("""
            ...
            .#.
            .#.
            ###
            .#.
        """)
        self.assertEqual(hidden_way(floor, [], (0, 2), (2, 2)), "nneess")
        self.assertEqual(hidden_way(floor, [(2, 4)], (0, 2), (2, 2)), "nneess")
        with self.assertRaises(NoWay):
            hidden_way(floor, [(1, 0)], (0, 2), (2, 2))

    def test_a_longer_way_that_is_hidden(self):
        block = drawn_floor("""
            ##.##
            ##.##
            .....
            .###.
            .###.
            .....
        """)
        self.assertEqual(hidden_way(block, [], (0, 3), (4, 3)), "neeees")
        self.assertEqual(hidden_way(block, [(2, 0)], (0, 3), (4, 3)), "sseeeenn")

    def test_seen_at_an_end(self):
        floor = drawn_floor("...#...")
        for watchers in ([(0, 0)], [(2, 0)], [(4, 0), (1, 0)]):
            with self.assertRaises(NoWay):
                hidden_way(floor, watchers, (0, 0), (1, 0))
        self.assertEqual(hidden_way(floor, [(4, 0)], (0, 0), (2, 0)), "ee")

    def test_seen_at_the_last_cell_alone(self):
        block = drawn_floor(".... .##.")
        self.assertEqual(hidden_way(block, [(3, 1)], (0, 1), (1, 0)), "ne")
        with self.assertRaises(NoWay):
            hidden_way(block, [(3, 1)], (0, 1), (2, 0))
        with self.assertRaises(NoWay):
            hidden_way(block, [(3, 1)], (2, 0), (0, 1))

    def test_a_cell_that_cannot_be_reached(self):
        with self.assertRaises(NoWay):
            hidden_way(drawn_floor("..#.."), [], (0, 0), (3, 0))
        with self.assertRaises(NoWay):
            hidden_way(drawn_floor(".# #."), [], (0, 0), (1, 1))


class HiddenWayAgainstTheWords(unittest.TestCase):
    def test_all(self):
        chance = random.Random(9)
        for floor in SMALL_FLOORS:
            cells = slow_open(floor)
            for many in (0, 0, 1, 1, 1, 2, 3) if cells else ():
                watchers = [chance.choice(cells) for _ in range(many)]
                hidden = [cell for cell in cells if not any(cell in slow_field(floor, post) for post in watchers)]
                for _ in range(25):
                    one, other = chance.choice(hidden or cells), chance.choice(cells)
                    self.same(floor, watchers, hidden, one, other)

    def same(self, floor, watchers, hidden, one, other):
        way = slow_way(hidden, one, other) if one in hidden and other in hidden else None
        if way is None:
            with self.assertRaises(NoWay):
                hidden_way(floor, watchers, one, other)
        else:
            self.assertEqual(hidden_way(floor, watchers, one, other), way, (floor, watchers, one, other))
            self.assertEqual(gone(one, way)[-1], other)
            self.assertEqual([cell for cell in gone(one, way) if cell not in hidden], [])


class HiddenWayRefusals(unittest.TestCase):
    fine, wall, off = (0, 0), (2, 0), (6, 0)

    def refused(self, refusal, watchers, one, other):
        before = list(watchers)
        with self.assertRaises(refusal, msg=(watchers, one, other)):
            hidden_way(ROOMS, watchers, one, other)
        self.assertEqual(watchers, before)

    def test_each(self):
        for cell in cells_beyond(ROOMS):
            self.refused(OffFloor, [], cell, self.fine)
            self.refused(OffFloor, [], self.fine, cell)
            self.refused(OffFloor, [cell], self.fine, self.fine)
        for wall in ROOMS[2]:
            self.refused(InWall, [], wall, self.fine)
            self.refused(InWall, [], self.fine, wall)
            self.refused(InWall, [wall], self.fine, self.fine)

    def test_the_one_comes_first(self):
        self.refused(InWall, [self.off], self.wall, self.off)
        self.refused(OffFloor, [self.wall], self.off, self.wall)

    def test_then_the_other(self):
        self.refused(InWall, [self.off], self.fine, self.wall)
        self.refused(OffFloor, [self.wall], self.fine, self.off)

    def test_then_the_first_of_the_watchers(self):
        self.refused(InWall, [self.wall, self.off], self.fine, self.fine)
        self.refused(OffFloor, [self.off, self.wall], self.fine, self.fine)
        self.refused(InWall, [self.fine, self.wall, self.off], self.fine, self.fine)
        self.refused(OffFloor, [self.fine, self.off, self.wall], self.fine, self.fine)

    def test_no_way_comes_last(self):
        self.refused(NoWay, [self.fine], self.fine, self.fine)
        self.refused(InWall, [self.fine], self.fine, self.wall)
        self.refused(OffFloor, [self.fine], self.fine, self.off)

    def test_without_open_cells(self):
        with self.assertRaises(InWall):
            hidden_way(FULL, [], (0, 0), (0, 0))

    def test_the_watchers_are_not_changed(self):
        watchers = [(3, 2), (3, 2)]
        with self.assertRaises(NoWay):
            hidden_way(BARE, watchers, (0, 0), (1, 0))
        self.assertEqual(watchers, [(3, 2), (3, 2)])


if __name__ == "__main__":
    unittest.main()
