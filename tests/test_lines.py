"""Promises 2.1, 2.2, and 0.2 (a) and 0.3 as far as they speak of lines."""

import unittest
from fractions import Fraction

from lampfloor.lines import crossed, pinched

HALF = Fraction(1, 2)
SPAN = range(-7, 8)
CENTRES = [(0, 0), (-3, 5), (4, -9)]


def inside_piece(start, way, low):
    """The part of the line, from 0 to 1, that lies between low and low + 1 in one of the two directions."""
    if way == 0:
        return (Fraction(0), Fraction(1)) if low < start < low + 1 else None
    ends = sorted([(low - start) / way, (low + 1 - start) / way])
    return (max(ends[0], Fraction(0)), min(ends[1], Fraction(1)))


def box(one, other):
    xs = range(min(one[0], other[0]) - 1, max(one[0], other[0]) + 2)
    ys = range(min(one[1], other[1]) - 1, max(one[1], other[1]) + 2)
    return [(x, y) for x in xs for y in ys]


def slow_crossed(one, other):
    """By the words of 2.1: each cell by itself, whether a piece of the line lies inside it."""
    if one == other:
        return [one]
    found = []
    for x, y in box(one, other):
        in_x = inside_piece(one[0] + HALF, other[0] - one[0], x)
        in_y = inside_piece(one[1] + HALF, other[1] - one[1], y)
        if in_x and in_y and max(in_x[0], in_y[0]) < min(in_x[1], in_y[1]):
            found.append((max(in_x[0], in_y[0]), (x, y)))
    return [cell for _, cell in sorted(found)]


def slow_pinched(one, other):
    """By the words of 2.2: each corner by itself, whether the line goes through it."""
    through = slow_crossed(one, other)
    way_x, way_y = other[0] - one[0], other[1] - one[1]
    found = []
    for x, y in box(one, other):
        off_x, off_y = x - one[0] - HALF, y - one[1] - HALF
        along = off_x * way_x + off_y * way_y
        if off_x * way_y == off_y * way_x and 0 <= along <= way_x * way_x + way_y * way_y and (way_x or way_y):
            around = [(x - 1, y - 1), (x - 1, y), (x, y - 1), (x, y)]
            found.append((along, tuple(cell for cell in around if cell not in through)))
    return [couple for _, couple in sorted(found)]


def lines():
    for one in CENTRES:
        for x in SPAN:
            for y in SPAN:
                yield one, (one[0] + x, one[1] + y)


class CrossedByHand(unittest.TestCase):
    def test_one_and_the_same(self):
        for cell in [(0, 0), (5, 3), (-2, -7), (100, -100)]:
            self.assertEqual(crossed(cell, cell), [cell])

    def test_neighbours(self):
        for other in [(3, 5), (5, 5), (4, 4), (4, 6), (3, 4), (5, 6), (3, 6), (5, 4)]:
            self.assertEqual(crossed((4, 5), other), [(4, 5), other])

    def test_along_x(self):
        self.assertEqual(crossed((1, 2), (4, 2)), [(1, 2), (2, 2), (3, 2), (4, 2)])
        self.assertEqual(crossed((1, 2), (-2, 2)), [(1, 2), (0, 2), (-1, 2), (-2, 2)])

    def test_along_y(self):
        self.assertEqual(crossed((2, 1), (2, 4)), [(2, 1), (2, 2), (2, 3), (2, 4)])
        self.assertEqual(crossed((2, 1), (2, -2)), [(2, 1), (2, 0), (2, -1), (2, -2)])

    def test_along_both_diagonals(self):
        self.assertEqual(crossed((0, 0), (3, 3)), [(0, 0), (1, 1), (2, 2), (3, 3)])
        self.assertEqual(crossed((1, 1), (-1, -1)), [(1, 1), (0, 0), (-1, -1)])
        self.assertEqual(crossed((0, 3), (3, 0)), [(0, 3), (1, 2), (2, 1), (3, 0)])
        self.assertEqual(crossed((1, -1), (-1, 1)), [(1, -1), (0, 0), (-1, 1)])

    def test_simple_slopes(self):
        self.assertEqual(crossed((0, 0), (2, 1)), [(0, 0), (1, 0), (1, 1), (2, 1)])
        self.assertEqual(crossed((0, 0), (1, 2)), [(0, 0), (0, 1), (1, 1), (1, 2)])
        self.assertEqual(crossed((0, 0), (3, 1)), [(0, 0), (1, 0), (2, 1), (3, 1)])
        self.assertEqual(crossed((0, 0), (4, 2)), [(0, 0), (1, 0), (1, 1), (2, 1), (3, 1), (3, 2), (4, 2)])
        self.assertEqual(crossed((0, 0), (5, 1)), [(0, 0), (1, 0), (2, 0), (3, 1), (4, 1), (5, 1)])

    def test_a_slope_that_is_not_simple(self):
        self.assertEqual(
            crossed((0, 0), (5, 2)),
            [(0, 0), (1, 0), (1, 1), (2, 1), (3, 1), (4, 1), (4, 2), (5, 2)],
        )
        self.assertEqual(
            crossed((-2, 3), (1, -1)),
            [(-2, 3), (-2, 2), (-1, 2), (-1, 1), (0, 1), (0, 0), (1, 0), (1, -1)],
        )

    def test_a_long_line(self):
        told = crossed((-1000, 7), (1000, 8))
        self.assertEqual(len(told), 2002)
        self.assertEqual(told[1000:1002], [(0, 7), (0, 8)])


class PinchedByHand(unittest.TestCase):
    def test_nothing(self):
        for other in [(0, 0), (4, 0), (-4, 0), (0, 4), (0, -4), (2, 1), (1, 2), (-2, 1), (5, 2), (4, 2)]:
            self.assertEqual(pinched((0, 0), other), [])

    def test_one_corner(self):
        self.assertEqual(pinched((0, 0), (1, 1)), [((0, 1), (1, 0))])
        self.assertEqual(pinched((0, 0), (-1, -1)), [((-1, 0), (0, -1))])
        self.assertEqual(pinched((0, 0), (1, -1)), [((0, -1), (1, 0))])
        self.assertEqual(pinched((0, 0), (-1, 1)), [((-1, 0), (0, 1))])

    def test_both_diagonals(self):
        self.assertEqual(pinched((0, 0), (3, 3)), [((0, 1), (1, 0)), ((1, 2), (2, 1)), ((2, 3), (3, 2))])
        self.assertEqual(pinched((3, 3), (0, 0)), [((2, 3), (3, 2)), ((1, 2), (2, 1)), ((0, 1), (1, 0))])
        self.assertEqual(pinched((-1, 1), (1, -1)), [((-1, 0), (0, 1)), ((0, -1), (1, 0))])

    def test_slopes_that_meet_corners(self):
        self.assertEqual(pinched((0, 0), (3, 1)), [((1, 1), (2, 0))])
        self.assertEqual(pinched((0, 0), (1, 3)), [((0, 2), (1, 1))])
        self.assertEqual(pinched((0, 0), (6, 2)), [((1, 1), (2, 0)), ((4, 2), (5, 1))])
        self.assertEqual(pinched((0, 0), (-3, -1)), [((-2, 0), (-1, -1))])
        self.assertEqual(pinched((0, 0), (5, 3)), [((2, 2), (3, 1))])


class AgainstTheWords(unittest.TestCase):
    def test_crossed(self):
        for one, other in lines():
            self.assertEqual(crossed(one, other), slow_crossed(one, other), (one, other))

    def test_pinched(self):
        for one, other in lines():
            self.assertEqual(pinched(one, other), slow_pinched(one, other), (one, other))

    def test_kinds(self):
        for one, other in lines():
            self.assertIsInstance(crossed(one, other), list)
            self.assertIsInstance(pinched(one, other), list)
            for cell in crossed(one, other):
                self.assertIsInstance(cell, tuple)
            for couple in pinched(one, other):
                self.assertIsInstance(couple, tuple)
                self.assertEqual(len(couple), 2)
                self.assertLess(couple[0], couple[1])


class ForAllLines(unittest.TestCase):
    def test_from_the_one_to_the_other(self):
        for one, other in lines():
            told = crossed(one, other)
            self.assertEqual((told[0], told[-1]), (one, other))

    def test_there_and_back(self):
        for one, other in lines():
            self.assertEqual(crossed(other, one), crossed(one, other)[::-1], (one, other))
            self.assertEqual(pinched(other, one), pinched(one, other)[::-1], (one, other))

    def test_mirrored(self):
        def turn(cell):
            return (11 - cell[0], cell[1])

        self.all_turned(turn)

    def test_flipped(self):
        def turn(cell):
            return (cell[1], cell[0])

        self.all_turned(turn)

    def all_turned(self, turn):
        for one, other in lines():
            cells = [turn(cell) for cell in crossed(one, other)]
            couples = [tuple(sorted(map(turn, couple))) for couple in pinched(one, other)]
            self.assertEqual(crossed(turn(one), turn(other)), cells, (one, other))
            self.assertEqual(pinched(turn(one), turn(other)), couples, (one, other))

    def test_new_lists_each_time(self):
        for asked in (crossed, pinched):
            told = asked((0, 0), (3, 3))
            before = list(told)
            told.clear()
            self.assertEqual(asked((0, 0), (3, 3)), before)


if __name__ == "__main__":
    unittest.main()
