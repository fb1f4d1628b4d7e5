"""Promises 14.1, 14.2, and 0.2 (j) and 0.3 as far as they speak of builders."""

import random
import unittest

from helper import FULL, ROOMS, SMALL_FLOORS, cells_beyond, drawn_floor, scattered, slow_couples, slow_open, whole_area
from lampfloor.builders import Builder
from lampfloor.errors import LampError, NoStep, OffFloor
from lampfloor.floors import flipped, mirrored, with_solid, without_solid
from lampfloor.sight import couples_of

ROW = (3, 1, ())


def all_told(builder):
    return (builder.now(), builder.counts())


def history(builder):
    """What it can take back, and then do again: the words and floors, told by a twin."""
    twin = builder.twin()
    told = []
    while twin.counts()[0]:
        told.append((twin.back(), twin.now()))
    while twin.counts()[1]:
        told.append((twin.forth(), twin.now()))
    return told


class PutAndTake(unittest.TestCase):
    def test_the_beginning(self):
        for floor in SMALL_FLOORS:
            self.assertEqual(all_told(Builder(floor)), (floor, (0, 0)))

    def test_in_a_row(self):
        builder = Builder(ROW)
        self.assertEqual(builder.put((1, 0)), 3)
        self.assertEqual(builder.now(), (3, 1, ((1, 0),)))
        self.assertEqual(builder.put((0, 0)), 0)
        self.assertEqual(builder.now(), (3, 1, ((0, 0), (1, 0))))
        self.assertEqual(builder.take((1, 0)), 1)
        self.assertEqual(builder.take((0, 0)), 2)
        self.assertEqual(all_told(builder), (ROW, (4, 0)))

    def test_at_a_corner(self):
        builder = Builder(drawn_floor(".# .."))
        self.assertEqual(builder.put((0, 1)), 3)
        self.assertEqual(builder.take((1, 0)), 3)
        self.assertEqual(builder.now(), drawn_floor(".. #."))

    def test_put_where_a_wall_is(self):
        for floor in SMALL_FLOORS:
            for wall in floor[2]:
                builder = Builder(floor)
                self.assertEqual(builder.put(wall), 0)
                self.assertEqual(all_told(builder), (floor, (1, 0)))

    def test_take_where_none_is(self):
        for floor in SMALL_FLOORS:
            for cell in slow_open(floor):
                builder = Builder(floor)
                self.assertEqual(builder.take(cell), 0)
                self.assertEqual(all_told(builder), (floor, (1, 0)))

    def test_against_the_words(self):
        for floor in SMALL_FLOORS:
            before = len(slow_couples(floor))
            for cell in whole_area(floor):
                put, take = Builder(floor), Builder(floor)
                self.assertEqual(put.put(cell), before - len(slow_couples(with_solid(floor, cell))), (floor, cell))
                self.assertEqual(put.now(), with_solid(floor, cell))
                self.assertEqual(take.take(cell), len(slow_couples(without_solid(floor, cell))) - before, (floor, cell))
                self.assertEqual(take.now(), without_solid(floor, cell))

    def test_a_large_floor(self):
        for floor in ((12, 12, ()), scattered(12, 12, 40, 140)):
            for cell in whole_area(floor)[::29]:
                put, take = Builder(floor), Builder(floor)
                self.assertEqual(put.put(cell), len(couples_of(floor)) - len(couples_of(with_solid(floor, cell))))
                self.assertEqual(take.take(cell), len(couples_of(without_solid(floor, cell))) - len(couples_of(floor)))

    def test_a_floor_somewhat_too_large_is_not_refused(self):
        self.assertEqual(Builder((13, 1, ())).put((12, 0)), 12)


class MirrorAndFlip(unittest.TestCase):
    def test_each(self):
        for floor in SMALL_FLOORS:
            builder = Builder(floor)
            self.assertIsNone(builder.mirror())
            self.assertEqual(all_told(builder), (mirrored(floor), (1, 0)))
            self.assertIsNone(builder.flip())
            self.assertEqual(all_told(builder), (flipped(mirrored(floor)), (2, 0)))

    def test_cells_are_those_of_the_floor_as_it_is(self):
        builder = Builder((3, 2, ()))
        with self.assertRaises(OffFloor):
            builder.put((1, 2))
        builder.flip()
        self.assertEqual(builder.put((1, 2)), 5)
        with self.assertRaises(OffFloor):
            builder.take((2, 1))
        self.assertEqual(builder.now(), (2, 3, ((1, 2),)))


class BackAndForth(unittest.TestCase):
    def test_each_word(self):
        builder = Builder(ROW)
        builder.put((0, 0))
        builder.mirror()
        builder.flip()
        builder.take((0, 2))
        floors = [(1, 3, ((0, 2),)), (3, 1, ((2, 0),)), (3, 1, ((0, 0),)), ROW]
        for number, word in enumerate(["take", "flip", "mirror", "put"]):
            self.assertEqual(builder.back(), word)
            self.assertEqual(all_told(builder), (floors[number], (3 - number, number + 1)))
        for number, word in enumerate(["put", "mirror", "flip", "take"]):
            self.assertEqual(builder.forth(), word)
            self.assertEqual(builder.counts(), (number + 1, 3 - number))
        self.assertEqual(builder.now(), (1, 3, ()))

    def test_steps_that_changed_nothing(self):
        floor = drawn_floor(".#. #.#")
        builder = Builder(floor)
        builder.put((1, 0))
        builder.take((0, 0))
        builder.mirror()
        self.assertEqual(all_told(builder), (floor, (3, 0)))
        self.assertEqual([builder.back(), builder.back(), builder.back()], ["mirror", "take", "put"])
        self.assertEqual(all_told(builder), (floor, (0, 3)))
        self.assertEqual([builder.forth(), builder.forth(), builder.forth()], ["put", "take", "mirror"])
        self.assertEqual(all_told(builder), (floor, (3, 0)))

    def test_a_square_that_is_as_it_was_when_flipped(self):
        builder = Builder((2, 2, ()))
        builder.flip()
        self.assertEqual(builder.counts(), (1, 0))
        self.assertEqual(builder.back(), "flip")

    def test_a_step_behind_steps_taken_back(self):
        for step, word in (
            (lambda builder: builder.put((0, 0)), "put"),
            (lambda builder: builder.take((0, 0)), "take"),
            (lambda builder: builder.mirror(), "mirror"),
            (lambda builder: builder.flip(), "flip"),
        ):
            builder = Builder(ROW)
            builder.put((1, 0))
            builder.put((2, 0))
            builder.back()
            self.assertEqual(builder.counts(), (1, 1))
            step(builder)
            self.assertEqual(builder.counts(), (2, 0))
            before = all_told(builder)
            with self.assertRaises(NoStep):
                builder.forth()
            self.assertEqual(all_told(builder), before)
            self.assertEqual([builder.back(), builder.back()], [word, "put"])
            self.assertEqual(all_told(builder), (ROW, (0, 2)))

    def test_back_and_forth_are_no_steps_themselves(self):
        builder = Builder(ROW)
        builder.put((1, 0))
        for _ in range(3):
            self.assertEqual(builder.back(), "put")
            self.assertEqual(all_told(builder), (ROW, (0, 1)))
            self.assertEqual(builder.forth(), "put")
            self.assertEqual(all_told(builder), ((3, 1, ((1, 0),)), (1, 0)))


class ManySteps(unittest.TestCase):
    def step(self, builder, chance, done, undone):
        floor = done[-1][1]
        word = chance.choice(["put", "put", "take", "take", "mirror", "flip", "back", "back", "forth"])
        cell = chance.choice(whole_area(floor))
        if word == "back" and len(done) > 1:
            undone.append(done.pop())
            self.assertEqual(builder.back(), undone[-1][0])
        elif word == "forth" and undone:
            done.append(undone.pop())
            self.assertEqual(builder.forth(), done[-1][0])
        elif word in ("back", "forth"):
            with self.assertRaises(NoStep):
                builder.back() if word == "back" else builder.forth()
        else:
            after = {
                "put": lambda: with_solid(floor, cell),
                "take": lambda: without_solid(floor, cell),
                "mirror": lambda: mirrored(floor),
                "flip": lambda: flipped(floor),
            }[word]()
            more = len(couples_of(after)) - len(couples_of(floor))
            told = {
                "put": lambda: builder.put(cell),
                "take": lambda: builder.take(cell),
                "mirror": builder.mirror,
                "flip": builder.flip,
            }[word]()
            self.assertEqual(told, {"put": -more, "take": more}.get(word))
            done.append((word, after))
            undone.clear()

    def test_many(self):
        chance = random.Random(141)
        for floor in SMALL_FLOORS + [scattered(7, 5, 12, 142)]:
            builder, done, undone = Builder(floor), [(None, floor)], []
            for number in range(80):
                self.step(builder, chance, done, undone)
                self.assertEqual(all_told(builder), (done[-1][1], (len(done) - 1, len(undone))))
                if number % 20 == 19:
                    told = [(done[at][0], done[at - 1][1]) for at in range(len(done) - 1, 0, -1)]
                    self.assertEqual(history(builder), told + done[1:] + undone[::-1])


class Twins(unittest.TestCase):
    def a_builder(self):
        builder = Builder(ROOMS)
        builder.put((0, 0))
        builder.mirror()
        builder.take((2, 2))
        builder.flip()
        builder.back()
        return builder

    def test_as_this_one(self):
        builder = self.a_builder()
        twin = builder.twin()
        self.assertIsInstance(twin, Builder)
        self.assertIsNot(twin, builder)
        self.assertEqual(all_told(twin), all_told(builder))
        self.assertEqual(history(twin), history(builder))
        self.assertEqual(twin.counts(), (3, 1))
        self.assertEqual(twin.forth(), "flip")

    def test_each_goes_by_itself(self):
        for change in (
            lambda builder: builder.put((1, 1)),
            lambda builder: builder.take((1, 1)),
            lambda builder: builder.mirror(),
            lambda builder: builder.flip(),
            lambda builder: builder.back(),
            lambda builder: builder.forth(),
        ):
            builder = self.a_builder()
            twin = builder.twin()
            for changed, other in ((builder, twin), (twin, builder.twin())):
                before = (all_told(other), history(other))
                change(changed)
                self.assertEqual((all_told(other), history(other)), before)

    def test_a_twin_of_a_twin(self):
        builder = self.a_builder()
        twin = builder.twin()
        third = twin.twin()
        before = history(builder)
        self.assertEqual(twin.back(), "take")
        self.assertEqual((history(third), third.counts()), (before, (3, 1)))
        third.put((1, 0))
        self.assertEqual((third.counts(), twin.counts(), builder.counts()), ((4, 0), (2, 2), (3, 1)))
        self.assertEqual(history(builder), before)

    def test_a_twin_at_the_beginning(self):
        twin = Builder(FULL).twin()
        self.assertEqual(all_told(twin), (FULL, (0, 0)))
        for asked in (twin.back, twin.forth):
            with self.assertRaises(NoStep):
                asked()


class Refusals(unittest.TestCase):
    def test_off_the_floor_changes_nothing(self):
        builder = Builder(ROOMS)
        builder.put((0, 0))
        builder.mirror()
        builder.back()
        before = (all_told(builder), history(builder))
        for cell in cells_beyond(ROOMS):
            for asked in (builder.put, builder.take):
                with self.assertRaises(OffFloor) as taken:
                    asked(cell)
                self.assertIsInstance(taken.exception, LampError)
        self.assertEqual((all_told(builder), history(builder)), before)
        self.assertEqual(builder.forth(), "mirror")

    def test_nothing_to_take_back_or_to_do_again(self):
        for floor in SMALL_FLOORS:
            builder = Builder(floor)
            for _ in range(2):
                for asked in (builder.back, builder.forth):
                    with self.assertRaises(NoStep):
                        asked()
                    self.assertEqual(all_told(builder), (floor, (0, 0)))
            builder.flip()
            with self.assertRaises(NoStep):
                builder.forth()
            self.assertEqual(all_told(builder), (flipped(floor), (1, 0)))
            builder.back()
            with self.assertRaises(NoStep):
                builder.back()
            self.assertEqual(all_told(builder), (floor, (0, 1)))

    def test_two_builders(self):
        one, other = Builder(ROOMS), Builder(ROOMS)
        one.put((0, 0))
        self.assertEqual(all_told(other), (ROOMS, (0, 0)))

    def test_kinds(self):
        builder = Builder(ROOMS)
        self.assertIs(builder.counts().__class__, tuple)
        self.assertIs(builder.put((0, 0)).__class__, int)
        self.assertIs(builder.put((0, 0)).__class__, int)
        self.assertIs(builder.take((0, 0)).__class__, int)
        self.assertIs(builder.take((0, 0)).__class__, int)


if __name__ == "__main__":
    unittest.main()
