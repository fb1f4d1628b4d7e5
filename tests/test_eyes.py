"""Promises 9.1, 9.2, and 0.2 (f) and 0.3 as far as they speak of eyes and quiet ways."""

import copy
import random
import unittest

from helper import (
    BARE,
    DEEP,
    FULL,
    NO_TUPLES,
    ROOMS,
    SMALL_FLOORS,
    STEPS,
    cells_beyond,
    drawn_floor,
    gone,
    scattered,
    slow_field,
    slow_open,
    slow_sees,
    slow_way,
    whole_area,
)
from lampfloor.errors import InWall, NoWay, OffFloor
from lampfloor.eyes import eyes_on, is_eye, quiet_way, seen_by, turned

LARGE = (12, 12, ())
RING = drawn_floor("""
    .....
    .###.
    .....
""")
HIGH_RING = drawn_floor("""
    ...
    .#.
    .#.
    ...
""")


def slow_spots(floor, eye, cell):
    """By the words of 9.1."""
    (x, y), way, far = eye
    east, south = cell[0] - x, cell[1] - y
    ahead = {"n": -south, "e": east, "s": south, "w": -east}[way]
    side = abs(east) if way in "ns" else abs(south)
    return slow_sees(floor, eye[0], cell) and side <= ahead and east ** 2 + south ** 2 <= far * far


def all_ways(cells, one, other):
    """All ways that stand on no cell twice; one that does can be cut short, which makes it no more seen."""
    found = []

    def go_on(stood, way):
        if stood[-1] == other:
            found.append(way)
            return
        for word in STEPS:
            there = gone(stood[-1], word)[1]
            if there in cells and there not in stood:
                go_on(stood + [there], way + word)

    go_on([one], "")
    return found


def slow_quiet_way(cells, times, one, other):
    def worth(way):
        return (sum(times[cell] for cell in gone(one, way)), len(way), ["nesw".index(word) for word in way])

    ways = all_ways(cells, one, other)
    return min(((worth(way), way) for way in ways), default=None)


def some_eyes(floor, chance, many):
    cells = slow_open(floor)
    return [(chance.choice(cells), chance.choice("nesw"), chance.choice([1, 2, 3, 17])) for _ in range(many)]


class IsEye(unittest.TestCase):
    def test_eyes(self):
        for way in "nesw":
            for far in range(1, 18):
                self.assertIs(is_eye(((0, 0), way, far)), True)
        for cell in [(11, 11), (12, 40), (-1, 3), (3, -1), (10 ** 20, -(10 ** 20))]:
            self.assertIs(is_eye((cell, "n", 7)), True)

    def test_too_near_and_too_far(self):
        for far in (0, -1, -17, 18, 19, 10 ** 20):
            self.assertIs(is_eye(((0, 0), "n", far)), False)

    def test_other_words(self):
        for word in ("", "N", "E", "S", "W", "x", "ne", "nesw", "nn", " ", "n ", "\n", "north", "0"):
            self.assertIs(is_eye(((0, 0), word, 1)), False, word)

    def test_truths_are_no_whole_numbers(self):
        wrong = [((0, 0), "n", True), ((True, 0), "n", 1), ((0, True), "n", 1), ((False, 0), "n", 1)]
        for thing in wrong + [((0, False), "n", 1), ((0, 0), True, 1), (True, True, True)]:
            self.assertIs(is_eye(thing), False, thing)

    def test_lists_are_no_tuples(self):
        for thing in [[(0, 0), "n", 1], ([0, 0], "n", 1), [[0, 0], "n", 1], ((0, 0), ["n"], 1), ((0, 0), "n", [1])]:
            self.assertIs(is_eye(thing), False, thing)

    def test_too_short_and_too_long(self):
        wrong = [(), ((0, 0),), ((0, 0), "n"), ((0, 0), 1), ((0, 0), "n", 1, 1), ((0, 0), "n", 1, None)]
        wrong += [((), "n", 1), ((0,), "n", 1), ((0, 0, 0), "n", 1), (0, 0, "n", 1), ("n", (0, 0), 1), ((0, 0), 1, "n")]
        for thing in wrong:
            self.assertIs(is_eye(thing), False, thing)

    def test_other_things_in_each_place(self):
        for thing in NO_TUPLES + DEEP + ["((0, 0), 'n', 1)", "nes", (None, None, None), ("0", "n", "1")]:
            before = copy.deepcopy(thing)
            self.assertIs(is_eye(thing), False, thing)
            self.assertIs(is_eye((thing, "n", 1)), False, thing)
            self.assertIs(is_eye(((0, 0), thing, 1)), False, thing)
            self.assertIs(is_eye(((0, 0), thing, thing)), False, thing)
            if thing.__class__ is not int:
                self.assertIs(is_eye(((0, 0), "n", thing)), False, thing)
                self.assertIs(is_eye(((0, thing), "n", 1)), False, thing)
                self.assertIs(is_eye(((thing, 0), "n", 1)), False, thing)
            self.assertEqual(thing, before)


class Turned(unittest.TestCase):
    def test_by_a_quarter_to_the_right(self):
        for way, right in ("ne", "es", "sw", "wn"):
            self.assertEqual(turned(((3, 1), way, 5)), ((3, 1), right, 5))

    def test_all_around(self):
        for way in "nesw":
            eye = ((-4, 11), way, 17)
            self.assertEqual(turned(turned(turned(turned(eye)))), eye)
            self.assertIs(is_eye(turned(eye)), True)
            self.assertEqual(eye, ((-4, 11), way, 17))


class SeenByHand(unittest.TestCase):
    def test_each_way(self):
        floor = (3, 3, ())
        for way, cells in (
            ("n", [(0, 0), (1, 0), (1, 1), (2, 0)]),
            ("e", [(1, 1), (2, 0), (2, 1), (2, 2)]),
            ("s", [(0, 2), (1, 1), (1, 2), (2, 2)]),
            ("w", [(0, 0), (0, 1), (0, 2), (1, 1)]),
        ):
            self.assertEqual(seen_by(floor, ((1, 1), way, 17)), cells)

    def test_as_far_to_the_side_as_ahead(self):
        told = seen_by((4, 3, ()), ((0, 0), "e", 17))
        self.assertEqual(told, [(0, 0), (1, 0), (1, 1), (2, 0), (2, 1), (2, 2), (3, 0), (3, 1), (3, 2)])
        self.assertEqual(seen_by((3, 2, ()), ((0, 0), "s", 17)), [(0, 0), (0, 1), (1, 1)])

    def test_just_as_far_and_just_beyond(self):
        self.assertEqual(seen_by((4, 3, ()), ((1, 1), "e", 1)), [(1, 1), (2, 1)])
        self.assertEqual(seen_by((4, 3, ()), ((1, 1), "e", 2)), [(1, 1), (2, 0), (2, 1), (2, 2), (3, 1)])
        told = seen_by(LARGE, ((0, 0), "s", 5))
        for cell in [(0, 5), (3, 4), (3, 3)]:
            self.assertIn(cell, told)
        for cell in [(1, 5), (0, 6), (4, 4), (4, 3)]:
            self.assertNotIn(cell, told)

    def test_over_a_whole_large_floor(self):
        half = [cell for cell in whole_area(LARGE) if cell[1] <= cell[0]]
        self.assertEqual(seen_by(LARGE, ((0, 0), "e", 17)), half)
        self.assertEqual(seen_by(LARGE, ((0, 0), "e", 16)), half)
        self.assertEqual(sorted(set(half) - set(seen_by(LARGE, ((0, 0), "e", 15)))), [(11, 11)])
        self.assertEqual(seen_by(LARGE, ((11, 11), "n", 1)), [(11, 10), (11, 11)])

    def test_its_own_cell(self):
        for way in "nesw":
            self.assertEqual(seen_by((1, 1, ()), ((0, 0), way, 1)), [(0, 0)])
            self.assertEqual(seen_by(drawn_floor("### #.# ###"), ((1, 1), way, 17)), [(1, 1)])
        self.assertEqual(seen_by(LARGE, ((0, 0), "n", 17)), [(0, 0)])

    def test_walls_are_not_among_them(self):
        self.assertEqual(seen_by(drawn_floor("..#."), ((0, 0), "e", 17)), [(0, 0), (1, 0)])
        self.assertEqual(seen_by(drawn_floor(".# .."), ((0, 0), "e", 17)), [(0, 0), (1, 1)])
        self.assertEqual(seen_by(drawn_floor(".# #."), ((0, 0), "e", 17)), [(0, 0)])

    def test_somewhat_beyond_is_not_refused(self):
        self.assertEqual(seen_by((20, 1, ()), ((0, 0), "e", 18)), [(x, 0) for x in range(19)])
        self.assertEqual(seen_by((20, 1, ()), ((0, 0), "e", 0)), [(0, 0)])


class EyesOnByHand(unittest.TestCase):
    def test_numbers(self):
        eyes = [((0, 0), "e", 2), ((3, 2), "w", 17), ((0, 0), "s", 17), ((0, 0), "e", 3)]
        self.assertEqual(eyes_on(BARE, eyes, (2, 0)), [0, 3])
        self.assertEqual(eyes_on(BARE, eyes, (1, 0)), [0, 1, 3])
        self.assertEqual(eyes_on(BARE, eyes, (3, 0)), [3])
        self.assertEqual(eyes_on(BARE, eyes, (0, 0)), [0, 1, 2, 3])
        self.assertEqual(eyes_on(BARE, eyes, (0, 2)), [1, 2])
        self.assertEqual(eyes_on(BARE, eyes[:1], (3, 0)), [])

    def test_no_eyes(self):
        for floor in SMALL_FLOORS:
            for cell in whole_area(floor):
                self.assertEqual(eyes_on(floor, [], cell), [])

    def test_several_on_one_cell_and_one_eye_twice(self):
        eyes = [((1, 1), "n", 1), ((1, 1), "n", 1), ((1, 1), "s", 9), ((1, 1), "e", 1)]
        self.assertEqual(eyes_on(BARE, eyes, (1, 1)), [0, 1, 2, 3])
        self.assertEqual(eyes_on(BARE, eyes, (1, 0)), [0, 1])
        self.assertEqual(eyes_on(BARE, eyes, (1, 2)), [2])
        self.assertEqual(eyes_on(BARE, eyes, (2, 1)), [3])

    def test_a_wall_is_seen_by_none(self):
        floor = drawn_floor("..#")
        self.assertEqual(eyes_on(floor, [((0, 0), "e", 17)], (2, 0)), [])
        self.assertEqual(eyes_on(floor, [((0, 0), "e", 17)], (1, 0)), [0])


class AgainstTheWords(unittest.TestCase):
    def test_seen_by(self):
        for floor in SMALL_FLOORS:
            for cell in slow_open(floor):
                for way in "nesw":
                    for far in (1, 2, 3, 5, 17):
                        eye = (cell, way, far)
                        seen = [there for there in slow_open(floor) if slow_spots(floor, eye, there)]
                        self.assertEqual(seen_by(floor, eye), seen, (floor, eye))

    def test_eyes_on(self):
        chance = random.Random(91)
        for floor in SMALL_FLOORS:
            for many in (0, 1, 2, 5, 9) if slow_open(floor) else ():
                eyes = some_eyes(floor, chance, many)
                for cell in whole_area(floor):
                    seen = [number for number in range(many) if slow_spots(floor, eyes[number], cell)]
                    self.assertEqual(eyes_on(floor, eyes, cell), seen, (floor, eyes, cell))

    def test_four_turns_see_the_whole_field(self):
        for floor in SMALL_FLOORS + [scattered(12, 12, 40, 92)]:
            for cell in slow_open(floor)[::4]:
                eye, seen = (cell, "n", 17), set()
                for _ in range(4):
                    seen.update(seen_by(floor, eye))
                    eye = turned(eye)
                self.assertEqual(sorted(seen), slow_field(floor, cell))


class QuietWayByHand(unittest.TestCase):
    def test_no_eyes(self):
        self.assertEqual(quiet_way(RING, [], (0, 1), (4, 1)), (0, "neeees"))
        self.assertEqual(quiet_way((3, 3, ()), [], (0, 0), (2, 2)), (0, "eess"))
        self.assertEqual(quiet_way((3, 3, ()), [], (2, 2), (0, 0)), (0, "nnww"))
        self.assertEqual(quiet_way((3, 3, ()), [], (0, 2), (2, 0)), (0, "nnee"))
        self.assertEqual(quiet_way((3, 3, ()), [], (2, 0), (0, 2)), (0, "ssww"))

    def test_around_what_is_seen(self):
        self.assertEqual(quiet_way(RING, [((2, 0), "e", 1)], (0, 1), (4, 1)), (0, "seeeen"))
        self.assertEqual(quiet_way(RING, [((2, 2), "e", 1)], (0, 1), (4, 1)), (0, "neeees"))
        self.assertEqual(quiet_way(RING, [((2, 0), "e", 1), ((2, 2), "n", 1)], (0, 1), (4, 1)), (1, "seeeen"))

    def test_a_longer_way_that_is_less_seen(self):
        self.assertEqual(quiet_way(HIGH_RING, [((1, 0), "n", 1)], (0, 1), (2, 1)), (0, "sseenn"))
        self.assertEqual(quiet_way(HIGH_RING, [((1, 0), "n", 1), ((1, 3), "s", 1)], (0, 1), (2, 1)), (1, "nees"))

    def test_the_shortest_of_those_that_are_seen_as_little(self):
        self.assertEqual(quiet_way(HIGH_RING, [], (0, 1), (2, 1)), (0, "nees"))
        self.assertEqual(quiet_way(HIGH_RING, [], (0, 2), (2, 2)), (0, "seen"))

    def test_each_eye_and_each_cell_counts(self):
        row = (3, 1, ())
        self.assertEqual(quiet_way(row, [((0, 0), "e", 17)], (0, 0), (2, 0)), (3, "ee"))
        self.assertEqual(quiet_way(row, [((0, 0), "e", 17)] * 3, (2, 0), (0, 0)), (9, "ww"))
        self.assertEqual(quiet_way(row, [((0, 0), "e", 1), ((2, 0), "w", 1)], (0, 0), (2, 0)), (4, "ee"))

    def test_the_two_ends_count(self):
        row = (4, 1, ())
        self.assertEqual(quiet_way(row, [((0, 0), "n", 1)], (0, 0), (3, 0)), (1, "eee"))
        self.assertEqual(quiet_way(row, [((3, 0), "n", 1)], (0, 0), (3, 0)), (1, "eee"))
        self.assertEqual(quiet_way(row, [((3, 0), "n", 1)], (0, 0), (2, 0)), (0, "ee"))

    def test_one_and_the_same(self):
        self.assertEqual(quiet_way(BARE, [], (1, 1), (1, 1)), (0, ""))
        self.assertEqual(quiet_way(BARE, [((0, 0), "e", 17), ((3, 1), "w", 1)], (1, 1), (1, 1)), (1, ""))
        self.assertEqual(quiet_way((1, 1, ()), [((0, 0), "w", 3)] * 2, (0, 0), (0, 0)), (2, ""))

    def test_a_cell_that_cannot_be_reached(self):
        for floor, one, other in ((drawn_floor("..#.."), (0, 0), (3, 0)), (drawn_floor(".# #."), (0, 0), (1, 1))):
            for eyes in ([], [(one, "n", 1)]):
                with self.assertRaises(NoWay):
                    quiet_way(floor, eyes, one, other)

    def test_on_a_large_floor(self):
        self.assertEqual(quiet_way(LARGE, [], (0, 0), (11, 11)), (0, "e" * 11 + "s" * 11))
        eyes = [((x, 0), "n", 1) for x in range(1, 12)]
        self.assertEqual(quiet_way(LARGE, eyes, (0, 0), (11, 11)), (0, "s" + "e" * 11 + "s" * 10))


class QuietWayAgainstTheWords(unittest.TestCase):
    def test_all(self):
        chance = random.Random(93)
        for floor in SMALL_FLOORS:
            cells = slow_open(floor)
            for many in (0, 1, 2, 3, 5, 8) if cells else ():
                eyes = some_eyes(floor, chance, many)
                times = {cell: sum(slow_spots(floor, eye, cell) for eye in eyes) for cell in cells}
                for _ in range(8):
                    self.same(floor, eyes, times, chance.choice(cells), chance.choice(cells))

    def same(self, floor, eyes, times, one, other):
        best = slow_quiet_way(slow_open(floor), times, one, other)
        if best is None:
            with self.assertRaises(NoWay):
                quiet_way(floor, eyes, one, other)
        else:
            self.assertEqual(quiet_way(floor, eyes, one, other), (best[0][0], best[1]), (floor, eyes, one, other))

    def test_without_eyes_it_is_the_first_of_the_shortest(self):
        chance = random.Random(94)
        for floor in (ROOMS, scattered(12, 12, 30, 95), scattered(12, 12, 45, 96)):
            cells = slow_open(floor)
            for _ in range(6):
                one, other = chance.choice(cells), chance.choice(cells)
                way = slow_way(cells, one, other)
                if way is not None:
                    self.assertEqual(quiet_way(floor, [], one, other), (0, way))

    def test_the_number_is_that_of_the_way(self):
        chance = random.Random(97)
        floor = scattered(12, 12, 30, 95)
        cells = slow_open(floor)
        eyes = some_eyes(floor, chance, 9)
        for _ in range(6):
            one, other = chance.choice(cells), chance.choice(cells)
            if slow_way(cells, one, other) is not None:
                number, way = quiet_way(floor, eyes, one, other)
                stood = gone(one, way)
                self.assertEqual(stood[-1], other)
                self.assertEqual([cell for cell in stood if cell not in cells], [])
                self.assertEqual(number, sum(len(eyes_on(floor, eyes, cell)) for cell in stood))


class Refusals(unittest.TestCase):
    fine, wall, off = ((0, 0), "e", 3), ((2, 0), "e", 3), ((6, 0), "e", 3)

    def refused(self, refusal, eyes, one=(0, 0), other=(0, 0), cell=(0, 0)):
        before = list(eyes)
        for asked in (lambda: eyes_on(ROOMS, eyes, cell), lambda: quiet_way(ROOMS, eyes, one, other)):
            with self.assertRaises(refusal, msg=(eyes, one, other, cell)):
                asked()
        self.assertEqual(eyes, before)

    def test_an_eye_off_the_floor(self):
        for cell in cells_beyond(ROOMS):
            self.refused(OffFloor, [(cell, "n", 1)])
            self.refused(OffFloor, [self.fine, (cell, "n", 1)])
            with self.assertRaises(OffFloor):
                seen_by(ROOMS, (cell, "n", 1))

    def test_an_eye_in_a_wall(self):
        for wall in ROOMS[2]:
            self.refused(InWall, [(wall, "n", 1)])
            self.refused(InWall, [self.fine, (wall, "n", 1)])
            with self.assertRaises(InWall):
                seen_by(ROOMS, (wall, "n", 1))

    def test_the_first_in_a_list(self):
        self.refused(OffFloor, [self.off, self.wall])
        self.refused(InWall, [self.wall, self.off])
        self.refused(OffFloor, [self.fine, self.off, self.wall])
        self.refused(InWall, [self.fine, self.fine, self.wall, self.off])

    def test_of_eyes_on_the_cell_comes_last(self):
        for cell in cells_beyond(ROOMS):
            with self.assertRaises(InWall):
                eyes_on(ROOMS, [self.fine, self.wall], cell)
            for eyes in ([], [self.fine]):
                with self.assertRaises(OffFloor):
                    eyes_on(ROOMS, eyes, cell)

    def test_the_ends_of_a_quiet_way(self):
        fine, wall, off = (0, 0), (2, 0), (6, 0)
        for refusal, eyes, one, other in (
            (OffFloor, [self.wall], off, wall),
            (InWall, [self.off], wall, off),
            (OffFloor, [self.wall], fine, off),
            (InWall, [self.off], fine, wall),
        ):
            with self.assertRaises(refusal, msg=(eyes, one, other)):
                quiet_way(ROOMS, eyes, one, other)
        for cell in cells_beyond(ROOMS):
            for one, other in ((cell, fine), (fine, cell)):
                with self.assertRaises(OffFloor):
                    quiet_way(ROOMS, [], one, other)

    def test_no_way_comes_last(self):
        floor = drawn_floor("..#..")
        for refusal, eyes in ((InWall, [((2, 0), "n", 1)]), (OffFloor, [((5, 0), "n", 1)]), (NoWay, [])):
            with self.assertRaises(refusal):
                quiet_way(floor, eyes, (0, 0), (4, 0))

    def test_without_open_cells(self):
        with self.assertRaises(InWall):
            seen_by(FULL, ((0, 0), "n", 1))
        with self.assertRaises(InWall):
            quiet_way(FULL, [], (0, 0), (0, 0))
        self.assertEqual(eyes_on(FULL, [], (0, 0)), [])


class NothingIsKept(unittest.TestCase):
    def test_new_lists_each_time(self):
        eyes = [((5, 4), "n", 3), ((0, 0), "e", 4)]
        for asked in (lambda: seen_by(ROOMS, eyes[0]), lambda: eyes_on(ROOMS, eyes, (0, 0))):
            answer = asked()
            before = list(answer)
            self.assertIs(answer.__class__, list)
            answer.clear()
            self.assertEqual(asked(), before)
        quiet_way(ROOMS, eyes, (0, 0), (1, 1))
        self.assertEqual(eyes, [((5, 4), "n", 3), ((0, 0), "e", 4)])

    def test_kinds(self):
        told = quiet_way(ROOMS, [], (0, 0), (1, 1))
        self.assertIs(told.__class__, tuple)
        self.assertEqual([part.__class__ for part in told], [int, str])


if __name__ == "__main__":
    unittest.main()
