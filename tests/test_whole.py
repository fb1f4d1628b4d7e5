"""Promises 0.2 (a) to (j), 0.3 and the interface, over the whole program, on floors small and great."""

import copy
import importlib
import inspect
import random
import unittest

from helper import (
    BARE,
    FULL,
    ROOMS,
    SMALL_FLOORS,
    cells_beyond,
    drawn_floor,
    flip_cell,
    gone,
    mirror_cell,
    scattered,
    slow_far,
    whole_area,
)
from lampfloor.builders import Builder
from lampfloor.errors import InWall, LampError, NoStep, NoText, NotWall, NoWay, OffFloor, TooMany
from lampfloor.eyes import eyes_on, quiet_way, seen_by
from lampfloor.floorbooks import book_text, read_book
from lampfloor.floors import flipped, is_floor, mirrored, open_cells, with_solid, without_solid
from lampfloor.keeper import Keeper
from lampfloor.lamps import dark_cells, light_at, lightest, lit_cells
from lampfloor.lines import crossed, pinched
from lampfloor.openness import blind_pairs, far_seen, most_open, openness, ranks
from lampfloor.patching import part_of, set_below, set_right, walled
from lampfloor.posts import fewest_posts, most_apart
from lampfloor.relays import halls, relay, rooms
from lampfloor.shadows import hidden_by, idle_solids
from lampfloor.sight import couples_of, field_of, seen_by_all, seen_by_any, seen_from, sees
from lampfloor.touring import toured
from lampfloor.walking import Walker, hidden_way
from lampfloor.writing import read, written

MAZE = drawn_floor("""
    ............
    .##########.
    .#........#.
    .#.######.#.
    .#.#....#.#.
    .#.#.##.#.#.
    .#.#.#..#.#.
    .#.#.####.#.
    .#.#......#.
    .#.########.
    .#..........
    .###########
""")
GREAT_FLOORS = [
    (12, 12, ()),
    MAZE,
    scattered(12, 12, 25, 160),
    scattered(12, 12, 60, 161),
    scattered(12, 12, 130, 162),
    scattered(12, 5, 20, 163),
    (12, 1, ((4, 0),)),
    (1, 12, ((0, 4), (0, 9))),
]
FLOORS = SMALL_FLOORS + GREAT_FLOORS
TURNS = [(mirrored, mirror_cell), (flipped, flip_cell)]


def some_of(things, many, seed=0):
    return random.Random(seed).sample(things, min(many, len(things)))


def moved_all(move, floor, cells):
    return sorted(move(floor, cell) for cell in cells)


class Sight(unittest.TestCase):
    """0.2 (a)."""

    def test_a_line_back_goes_through_the_same_cells(self):
        for one in some_of(whole_area((12, 12)), 12):
            for other in whole_area((12, 12)):
                self.assertEqual(crossed(other, one), crossed(one, other)[::-1])
                self.assertEqual(pinched(other, one), pinched(one, other)[::-1])

    def test_who_sees_one_is_seen_by_it(self):
        for floor in FLOORS:
            for one in some_of(open_cells(floor), 8):
                seen = field_of(floor, one)
                for other in open_cells(floor):
                    self.assertIs(sees(floor, one, other), other in seen)
                    self.assertIs(sees(floor, other, one), other in seen)

    def test_all_sight_is_mirrored_or_flipped(self):
        for floor in FLOORS:
            for turn, move in TURNS:
                couples = [tuple(moved_all(move, floor, couple)) for couple in couples_of(floor)]
                self.assertEqual(couples_of(turn(floor)), sorted(couples))
                for cell in some_of(open_cells(floor), 4):
                    there = move(floor, cell)
                    self.assertEqual(seen_from(turn(floor), there), moved_all(move, floor, seen_from(floor, cell)))
                    idle = moved_all(move, floor, idle_solids(floor, cell))
                    self.assertEqual(idle_solids(turn(floor), there), idle)


class Walls(unittest.TestCase):
    """0.2 (b)."""

    def test_a_wall_more_never_lets_see_more(self):
        for floor in FLOORS:
            before = couples_of(floor)
            for cell in some_of(open_cells(floor), 5):
                after = couples_of(with_solid(floor, cell))
                self.assertEqual(set(after) - set(before), set())
                for one, other in sorted(set(before) - set(after)):
                    met = crossed(one, other) + [beside for couple in pinched(one, other) for beside in couple]
                    self.assertIn(cell, met)

    def test_a_keeper_tells_what_looking_at_all_does(self):
        for floor in FLOORS:
            keeper = Keeper(floor)
            for cell in some_of(whole_area(floor), 5):
                now = keeper.now()
                change = keeper.take_solid if cell in now[2] else keeper.put_solid
                after = without_solid(now, cell) if cell in now[2] else with_solid(now, cell)
                changed = sorted(set(couples_of(now)) ^ set(couples_of(after)))
                self.assertEqual(change(cell), changed)
                self.assertEqual((keeper.now(), keeper.seen()), (after, couples_of(after)))

    def test_what_a_wall_hides_is_seen_without_it(self):
        for floor in FLOORS:
            for cell in some_of(open_cells(floor), 3):
                for wall in some_of(list(floor[2]), 5):
                    freed = set(field_of(without_solid(floor, wall), cell)) - set(field_of(floor, cell)) - {wall}
                    self.assertEqual(hidden_by(floor, cell, wall), sorted(freed))
                    self.assertIs(wall in idle_solids(floor, cell), not freed)


class Lamps(unittest.TestCase):
    """0.2 (c)."""

    def test_whatever_the_order(self):
        for floor in FLOORS:
            lamps = [(cell, 7 + 5 * number) for number, cell in enumerate(some_of(open_cells(floor), 6))]
            for least in ((0, 1), (1, 3), (5, 1)):
                self.assertEqual(lit_cells(floor, lamps, least), lit_cells(floor, lamps[::-1], least))
            self.assertEqual(lightest(floor, lamps), lightest(floor, lamps[::-1]))
            lit = seen_by_any(floor, [cell for cell, _ in lamps])
            self.assertEqual(dark_cells(floor, lamps), [cell for cell in open_cells(floor) if cell not in lit])

    def test_as_one_there_would_light_it(self):
        for floor in FLOORS:
            for one in some_of(open_cells(floor), 5):
                for other in some_of(open_cells(floor), 15, 1):
                    self.assertEqual(light_at(floor, [(one, 60)], other), light_at(floor, [(other, 60)], one))


class Posts(unittest.TestCase):
    """0.2 (d)."""

    def test_from_the_fewest_all_is_seen_and_they_are_no_more_than_the_most_apart(self):
        few = [scattered(wide, high, wide * high - 12, seed) for seed, (wide, high) in
               enumerate([(4, 4), (5, 5), (12, 12), (12, 2), (3, 5), (6, 6)])]
        for floor in [floor for floor in FLOORS if len(open_cells(floor)) <= 12] + few:
            posts, apart = fewest_posts(floor), most_apart(floor)
            self.assertEqual(seen_by_any(floor, posts), open_cells(floor))
            self.assertLessEqual(len(posts), len(apart))
            for one in apart:
                self.assertEqual([other for other in apart if sees(floor, one, other)], [one])

    def test_too_many(self):
        for floor in (MAZE, (13, 1, ()), scattered(12, 12, 131, 1)):
            for asked in (fewest_posts, most_apart):
                with self.assertRaises(TooMany):
                    asked(floor)


class Walkers(unittest.TestCase):
    """0.2 (e)."""

    def test_what_a_walker_knows(self):
        chance = random.Random(164)
        for floor in FLOORS:
            for start in some_of(open_cells(floor), 2):
                walker = Walker(floor, start)
                told = set(walker.knows())
                for _ in range(20):
                    try:
                        told.update(walker.step(chance.choice("nesw")))
                    except NoStep:
                        pass
                seen = {cell for stood in walker.walked() for cell in seen_from(floor, stood)}
                self.assertEqual(walker.knows(), sorted(seen))
                self.assertEqual(told, seen)

    def test_behind_a_tour_nothing_is_left_to_find_out(self):
        for floor in FLOORS:
            for start in some_of(open_cells(floor), 2):
                way, known = toured(floor, start)
                room = [cells for cells in rooms(floor) if start in cells][0]
                self.assertEqual(known, sorted({cell for stood in room for cell in seen_from(floor, stood)}))
                self.assertEqual([cell for cell in gone(start, way) if cell not in room], [])


class Ways(unittest.TestCase):
    """0.2 (f)."""

    def test_hidden_ways_are_ways_that_none_sees_and_none_is_shorter(self):
        for floor in FLOORS:
            watchers = some_of(open_cells(floor), 1, 2)
            hidden = [cell for cell in open_cells(floor) if cell not in seen_by_any(floor, watchers)]
            for one in some_of(hidden, 3):
                far = slow_far(hidden, one)
                for other in some_of(open_cells(floor), 6):
                    if other in far:
                        way = hidden_way(floor, watchers, one, other)
                        self.assertEqual((gone(one, way)[-1], len(way)), (other, far[other]))
                        self.assertEqual([cell for cell in gone(one, way) if cell not in hidden], [])
                    else:
                        self.assertRaises(NoWay, hidden_way, floor, watchers, one, other)

    def test_quiet_ways_are_ways_and_none_is_seen_less(self):
        for floor in FLOORS:
            cells = open_cells(floor)
            eyes = [(cell, "nesw"[number % 4], 3 + number) for number, cell in enumerate(some_of(cells, 7, 3))]
            times = {cell: len(eyes_on(floor, eyes, cell)) for cell in cells}
            self.assertEqual(sum(times.values()), sum(len(seen_by(floor, eye)) for eye in eyes))
            for one in some_of(cells, 2):
                least = self.least_seen(times, one)
                for other in some_of(cells, 6):
                    if other in least:
                        number, way = quiet_way(floor, eyes, one, other)
                        stood = gone(one, way)
                        self.assertEqual((number, len(way), stood[-1]), (*least[other], other))
                        self.assertEqual(number, sum(times[cell] for cell in stood))
                    else:
                        self.assertRaises(NoWay, quiet_way, floor, eyes, one, other)

    def least_seen(self, times, one):
        """How little seen each cell can be reached, and then in how few steps: made less until it holds."""
        least, changed = {one: (times[one], 0)}, True
        while changed:
            changed = False
            for cell in list(least):
                for there in (gone(cell, word)[1] for word in "nesw"):
                    if there in times:
                        reached = (least[cell][0] + times[there], least[cell][1] + 1)
                        if there not in least or reached < least[there]:
                            least[there], changed = reached, True
        return least

    def test_chains_of_signs(self):
        for floor in FLOORS:
            for one in some_of(open_cells(floor), 2):
                hops, ring = {one: 1}, [one]
                while ring:
                    ring = [cell for cell in seen_by_any(floor, ring) if cell not in hops]
                    hops.update({cell: max(hops.values()) + 1 for cell in ring})
                for other in some_of(open_cells(floor), 6):
                    if other in hops:
                        chain = relay(floor, one, other)
                        self.assertEqual((chain[0], chain[-1], len(chain)), (one, other, hops[other]))
                        self.assertTrue(all(sees(floor, here, there) for here, there in zip(chain, chain[1:])))
                    else:
                        self.assertRaises(NoWay, relay, floor, one, other)

    def test_signs_come_just_where_steps_lead(self):
        for floor in FLOORS:
            self.assertEqual(halls(floor), rooms(floor))


class Texts(unittest.TestCase):
    """0.2 (g)."""

    def test_floors(self):
        texts = [written(floor) for floor in FLOORS]
        self.assertEqual([read(text) for text in texts], FLOORS)
        self.assertEqual(len(set(texts)), len(set(FLOORS)))

    def test_books(self):
        self.assertEqual(read_book(book_text(FLOORS)), FLOORS)
        self.assertEqual(read_book(book_text(FLOORS[::-1])), FLOORS[::-1])
        self.assertRaises(NoText, read, book_text(FLOORS))

    def test_a_sign_more_or_less(self):
        for text in (written(MAZE), written(ROOMS), written((1, 12, ()))):
            for at in some_of(range(len(text)), 20):
                for changed in (text[:at] + "x" + text[at + 1:], text[:at] + " " + text[at:]):
                    self.assertRaises(NoText, read, changed)
                    self.assertRaises(NoText, read_book, changed)
            self.assertRaises(NoText, read, text + "\n")

    def test_what_a_walker_draws_of_a_floor_that_it_knows_whole(self):
        for floor in ((12, 12, ()), BARE, drawn_floor("..# ...")):
            self.assertEqual(Walker(floor, (0, 0)).drawn(), written(floor))


class Openness(unittest.TestCase):
    """0.2 (h)."""

    def test_all_cells_and_all_couples_twice(self):
        for floor in FLOORS:
            cells, couples = open_cells(floor), couples_of(floor)
            self.assertEqual(sum(openness(floor, cell) for cell in cells), len(cells) + 2 * len(couples))
            self.assertEqual(sum(many * len(those) for many, those in ranks(floor)), len(cells) + 2 * len(couples))
            self.assertEqual(2 * (blind_pairs(floor) + len(couples)), len(cells) * (len(cells) - 1))
            if cells:
                self.assertEqual(openness(floor, most_open(floor)), max(openness(floor, cell) for cell in cells))


class Patches(unittest.TestCase):
    """0.2 (i)."""

    def test_cut_apart_and_put_together_again(self):
        for floor in FLOORS:
            right, below = floor[0] - 1, floor[1] - 1
            for x in range(right):
                parts = part_of(floor, (0, 0), (x, below)), part_of(floor, (x + 1, 0), (right, below))
                self.assertEqual(set_right(*parts), floor)
            for y in range(below):
                parts = part_of(floor, (0, 0), (right, y)), part_of(floor, (0, y + 1), (right, below))
                self.assertEqual(set_below(*parts), floor)

    def test_within_walls(self):
        for floor in FLOORS:
            if max(floor[0], floor[1]) > 10:
                self.assertRaises(OffFloor, walled, floor)
            else:
                couples = [tuple((x + 1, y + 1) for x, y in couple) for couple in couples_of(floor)]
                self.assertEqual(couples_of(walled(floor)), couples)
                self.assertIs(is_floor(walled(floor)), True)


class Builders(unittest.TestCase):
    """0.2 (j)."""

    def test_back_and_forth_step_by_step(self):
        chance = random.Random(165)
        for floor in FLOORS:
            builder, floors, words = Builder(floor), [floor], []
            for _ in range(12):
                cell = chance.choice(whole_area(builder.now()))
                words.append(chance.choice(["put", "take", "mirror", "flip"]))
                before = len(couples_of(builder.now()))
                step = getattr(builder, words[-1])
                told = step(cell) if words[-1] in ("put", "take") else step()
                floors.append(builder.now())
                more = len(couples_of(builder.now())) - before
                self.assertEqual(told, {"put": -more, "take": more}.get(words[-1]))
            for number in range(12, 0, -1):
                self.assertEqual(builder.back(), words[number - 1])
                self.assertEqual((builder.now(), builder.counts()), (floors[number - 1], (number - 1, 13 - number)))
            for number in range(12):
                self.assertEqual(builder.forth(), words[number])
                self.assertEqual((builder.now(), builder.counts()), (floors[number + 1], (number + 1, 11 - number)))


def asked_of(floor, cells, lamps, eyes):
    """Each function that takes a list or tells one, asked once, of a floor whose cells (0, 0) and (0, 1) are open."""
    one, other = (0, 0), (0, 1)
    keeper, walker = Keeper(floor), Walker(floor, one)
    return {
        "open_cells": lambda: open_cells(floor),
        "crossed": lambda: crossed(one, (5, 3)),
        "pinched": lambda: pinched(one, (3, 3)),
        "seen_from": lambda: seen_from(floor, one),
        "field_of": lambda: field_of(floor, one),
        "couples_of": lambda: couples_of(floor),
        "seen_by_all": lambda: seen_by_all(floor, cells),
        "seen_by_any": lambda: seen_by_any(floor, cells),
        "seen_by_all of none": lambda: seen_by_all(floor, []),
        "hidden_by": lambda: hidden_by(floor, one, floor[2][0]),
        "idle_solids": lambda: idle_solids(floor, one),
        "seen": keeper.seen,
        "lit_cells": lambda: lit_cells(floor, lamps, (0, 1)),
        "dark_cells": lambda: dark_cells(floor, []),
        "light_at": lambda: light_at(floor, lamps, one),
        "lightest": lambda: lightest(floor, lamps),
        "walked": walker.walked,
        "knows": walker.knows,
        "hidden_way": lambda: hidden_way(floor, [], one, other),
        "toured": lambda: toured(floor, one),
        "seen_by": lambda: seen_by(floor, eyes[0]),
        "eyes_on": lambda: eyes_on(floor, eyes, one),
        "quiet_way": lambda: quiet_way(floor, eyes, one, other),
        "relay": lambda: relay(floor, one, other),
        "rooms": lambda: rooms(floor),
        "halls": lambda: halls(floor),
        "ranks": lambda: ranks(floor),
        "read_book": lambda: read_book(book_text([floor, BARE])),
    }


def spoiled(thing):
    """Clears all lists in an answer."""
    for part in thing if isinstance(thing, (list, tuple)) else ():
        spoiled(part)
    if isinstance(thing, list):
        thing.clear()


class NothingIsKept(unittest.TestCase):
    """0.3."""

    def test_told_lists_are_new_ones_and_what_is_handed_in_is_not_changed(self):
        cells, lamps = [(0, 1), (0, 0), (0, 1)], [((0, 1), 5), ((0, 0), 9)]
        eyes = [((0, 1), "n", 4), ((0, 0), "e", 17)]
        before = copy.deepcopy((cells, lamps, eyes))
        for name, asked in asked_of(ROOMS, cells, lamps, eyes).items():
            answer = asked()
            kept = copy.deepcopy(answer)
            spoiled(answer)
            self.assertEqual(asked(), kept, name)
            self.assertEqual((cells, lamps, eyes), before, name)

    def test_what_walkers_and_keepers_tell_of_a_change_is_theirs_alone(self):
        keeper, walker = Keeper(ROOMS), Walker(ROOMS, (0, 0))
        spoiled(keeper.put_solid((0, 0)))
        spoiled(walker.step("e"))
        left = couples_of(with_solid(ROOMS, (0, 0)))
        self.assertEqual(keeper.seen(), left)
        self.assertEqual(keeper.take_solid((0, 0)), sorted(set(couples_of(ROOMS)) - set(left)))
        self.assertEqual(walker.knows(), sorted(set(seen_from(ROOMS, (0, 0))) | set(seen_from(ROOMS, (1, 0)))))

    def test_rising_lists_rise(self):
        asked = asked_of(ROOMS, [(0, 0), (0, 1)], [((0, 0), 9)], [((0, 0), "e", 17)])
        for name in ("open_cells seen_from field_of couples_of seen_by_all seen_by_any hidden_by idle_solids seen "
                     "lit_cells dark_cells knows seen_by eyes_on").split():
            answer = asked[name]()
            self.assertEqual(answer, sorted(set(answer)), name)


class Refusals(unittest.TestCase):
    """0.3, and the refusals of cells as the points tell them."""

    def test_cells_that_are_refused(self):
        wall, fine = (2, 0), (0, 0)
        looking = [seen_from, field_of, idle_solids, Walker, toured, openness, far_seen]
        looking += [lambda floor, cell: seen_by_all(floor, [fine, cell])]
        looking += [lambda floor, cell: seen_by_any(floor, [fine, cell])]
        looking += [lambda floor, cell: light_at(floor, [(fine, 1), (cell, 1)], fine)]
        looking += [lambda floor, cell: lightest(floor, [(cell, 1)])]
        looking += [lambda floor, cell: seen_by(floor, (cell, "n", 1))]
        looking += [lambda floor, cell: hidden_by(floor, cell, wall)]
        looking += [lambda floor, cell: hidden_way(floor, [], cell, fine)]
        looking += [lambda floor, cell: hidden_way(floor, [], fine, cell)]
        looking += [lambda floor, cell: hidden_way(floor, [cell], fine, fine)]
        looking += [lambda floor, cell: quiet_way(floor, [], cell, fine)]
        looking += [lambda floor, cell: quiet_way(floor, [], fine, cell)]
        looking += [lambda floor, cell: quiet_way(floor, [(cell, "n", 1)], fine, fine)]
        looking += [lambda floor, cell: relay(floor, cell, fine), lambda floor, cell: relay(floor, fine, cell)]
        looking += [lambda floor, cell: Keeper(floor).put_solid(cell)]
        for asked in looking:
            self.assertRaises(InWall, asked, ROOMS, wall)
            for cell in cells_beyond(ROOMS):
                self.assertRaises(OffFloor, asked, ROOMS, cell)
        self.assertRaises(NotWall, hidden_by, ROOMS, fine, fine)
        self.assertRaises(NotWall, Keeper(ROOMS).take_solid, fine)

    def test_without_open_cells(self):
        self.assertEqual([open_cells(FULL), couples_of(FULL), rooms(FULL), halls(FULL), ranks(FULL)], [[]] * 5)
        self.assertEqual([fewest_posts(FULL), most_apart(FULL), dark_cells(FULL, [])], [[]] * 3)
        self.assertEqual([lightest(FULL, []), most_open(FULL)], [None] * 2)
        self.assertEqual([seen_by_all(FULL, []), seen_by_any(FULL, []), Keeper(FULL).seen()], [[]] * 3)


INTERFACE = """
errors: LampError OffFloor InWall NotWall NoStep NoWay TooMany NoText
floors: is_floor/1 is_cell/2 is_solid/2 open_cells/1 with_solid/2 without_solid/2 mirrored/1 flipped/1
lines: crossed/2 pinched/2
sight: sees/3 seen_from/2 field_of/2 couples_of/1 seen_by_all/2 seen_by_any/2
shadows: hidden_by/3 idle_solids/2
keeper: Keeper/1 Keeper.put_solid/1 Keeper.take_solid/1 Keeper.now/0 Keeper.seen/0 Keeper.do_see/2 Keeper.looked/0
lamps: is_lamp/1 light_at/3 lit_cells/3 dark_cells/2 lightest/2
posts: fewest_posts/1 most_apart/1
walking: Walker/2 Walker.step/1 Walker.where/0 Walker.walked/0 Walker.knows/0 Walker.drawn/0 hidden_way/4
touring: toured/2
eyes: is_eye/1 turned/1 seen_by/2 eyes_on/3 quiet_way/4
relays: relay/3 rooms/1 halls/1
writing: written/1 read/1
openness: openness/2 far_seen/2 ranks/1 most_open/1 blind_pairs/1
patching: part_of/3 set_right/2 set_below/2 walled/1
builders: Builder/1 Builder.put/1 Builder.take/1 Builder.mirror/0 Builder.flip/0 Builder.now/0 Builder.back/0
builders: Builder.forth/0 Builder.counts/0 Builder.twin/0
floorbooks: book_text/1 read_book/1
"""


class Interface(unittest.TestCase):
    def test_all_is_there(self):
        for row in INTERFACE.split("\n")[1:-1]:
            name, told = row.split(": ")
            module = importlib.import_module("lampfloor." + name)
            for word in told.split():
                path, _, many = word.partition("/")
                thing = module
                for part in path.split("."):
                    thing = getattr(thing, part)
                if many:
                    wanted = int(many) + (1 if "." in path else 0)
                    self.assertEqual(len(inspect.signature(thing).parameters), wanted, word)
                else:
                    self.assertTrue(issubclass(thing, LampError), word)


if __name__ == "__main__":
    unittest.main()
