"""Promise 7.1, and 0.2 (d) and 0.3 as far as they speak of posts."""

import unittest
from itertools import combinations

from helper import FULL, SMALL_FLOORS, drawn_floor, scattered, slow_field, slow_open, whole_area
from lampfloor.errors import TooMany
from lampfloor.posts import fewest_posts, most_apart
from lampfloor.sight import seen_by_any, sees

TWELVE = [scattered(4, 4, 4, seed) for seed in range(8)] + [scattered(7, 7, 37, seed) for seed in range(8)]
FEW = [scattered(5, 5, 25 - many, 10 + many) for many in range(1, 12)]
FEW += [scattered(6, 4, 15, seed) for seed in range(8)]
FLOORS = TWELVE + FEW + [floor for floor in SMALL_FLOORS if len(slow_open(floor)) <= 12]

# Open cells that do not see one another at all.
APART = (8, 6, tuple((x, y) for x, y in whole_area((8, 6)) if x % 2 or y % 2))


def slow_choices(floor):
    """All rising lists of open cells, the shorter ones first, then by Python's order."""
    cells = slow_open(floor)
    return [list(chosen) for many in range(len(cells) + 1) for chosen in combinations(cells, many)]


def slow_posts(floor):
    fields = {cell: set(slow_field(floor, cell)) for cell in slow_open(floor)}
    for posts in slow_choices(floor):
        if len(set().union(*(fields[post] for post in posts))) == len(fields):
            return posts


def slow_apart(floor):
    fields = {cell: set(slow_field(floor, cell)) for cell in slow_open(floor)}
    apart = [
        chosen
        for chosen in slow_choices(floor)
        if not any(other in fields[one] for one, other in combinations(chosen, 2))
    ]
    return [chosen for chosen in apart if len(chosen) == len(apart[-1])][0]


class ByHand(unittest.TestCase):
    def test_without_open_cells(self):
        self.assertEqual(fewest_posts(FULL), [])
        self.assertEqual(most_apart(FULL), [])

    def test_a_single_cell(self):
        self.assertEqual(fewest_posts((1, 1, ())), [(0, 0)])
        self.assertEqual(most_apart((1, 1, ())), [(0, 0)])

    def test_the_least_of_several(self):
        self.assertEqual(fewest_posts((3, 2, ())), [(0, 0)])
        self.assertEqual(most_apart((3, 2, ())), [(0, 0)])
        self.assertEqual(fewest_posts(drawn_floor("..#..")), [(0, 0), (3, 0)])
        self.assertEqual(most_apart(drawn_floor("..#..")), [(0, 0), (3, 0)])

    def test_one_post_that_is_not_the_first_cell(self):
        floor = drawn_floor("... .#.")
        self.assertEqual(fewest_posts(floor), [(1, 0)])
        self.assertEqual(most_apart(floor), [(0, 0), (2, 1)])
        floor = drawn_floor(".## ... ##.")
        self.assertEqual(fewest_posts(floor), [(1, 1)])
        self.assertEqual(most_apart(floor), [(0, 0), (2, 1)])

    def test_none_sees_another_one(self):
        self.assertEqual(len(slow_open(APART)), 12)
        self.assertEqual(fewest_posts(APART), slow_open(APART))
        self.assertEqual(most_apart(APART), slow_open(APART))


class AgainstTheWords(unittest.TestCase):
    def test_fewest_posts(self):
        for floor in FLOORS:
            self.assertEqual(fewest_posts(floor), slow_posts(floor), floor)

    def test_most_apart(self):
        for floor in FLOORS:
            self.assertEqual(most_apart(floor), slow_apart(floor), floor)


class ForAllFloors(unittest.TestCase):
    def test_all_is_seen_and_posts_are_no_more_than_cells_apart(self):
        for floor in FLOORS:
            posts = fewest_posts(floor)
            apart = most_apart(floor)
            self.assertEqual(seen_by_any(floor, posts), slow_open(floor))
            self.assertLessEqual(len(posts), len(apart))
            self.assertFalse(any(sees(floor, one, other) for one, other in combinations(apart, 2)))


class Refusals(unittest.TestCase):
    def test_more_than_12_open_cells(self):
        floors = [(13, 1, ()), (1, 13, ()), (12, 12, ()), (7, 2, ())]
        for floor in floors + [scattered(5, 5, 12, 1), scattered(12, 12, 131, 1)]:
            self.assertGreater(len(slow_open(floor)), 12)
            for asked in (fewest_posts, most_apart):
                with self.assertRaises(TooMany, msg=floor):
                    asked(floor)

    def test_12_are_not_too_many(self):
        for floor in TWELVE + [(12, 1, ()), (4, 3, ()), scattered(12, 12, 132, 1)]:
            self.assertEqual(len(slow_open(floor)), 12)
            fewest_posts(floor)
            most_apart(floor)


class NothingIsKept(unittest.TestCase):
    def test_new_lists_each_time(self):
        for asked in (fewest_posts, most_apart):
            for floor in (APART, FULL):
                told = asked(floor)
                before = list(told)
                self.assertIs(told.__class__, list)
                told.append(None)
                self.assertEqual(asked(floor), before)


if __name__ == "__main__":
    unittest.main()
