"""Promises 2.1, 2.2, and 0.2 (a) and 0.3 as far as they speak of lines."""

import unittest

from helper import slow_crossed, slow_pinched
from lampfloor.lines import crossed, meets, pinched

SPAN = range(-7, 8)
CENTRES = [(0, 0), (-3, 5), (4, -9)]


def lines():
    for one in CENTRES:
        for x in SPAN:
            for y in SPAN:
                yield one, (one[0] + x, one[1] + y)


class CrossedByHand(unittest.TestCase):
    def test_one_and_the_same(self):
        for cell in [(0, 0), (5, 3), (-2, -7), (100, -100)]:
            self.assertEqual(crossed(cell, cell), [cell])

    def test_neighbours(self):
        for other in [(3, 5), (5, 5), (4, 4), (4, 6), (3, 4), (5, 6), (3, 6), (5, 4)]:
            self.assertEqual(crossed((4, 5), other), [(4, 5), other])

    def test_along_x(self):
        self.assertEqual(crossed((1, 2), (4, 2)), [(1, 2), (2, 2), (3, 2), (4, 2)])
        self.assertEqual(crossed((1, 2), (-2, 2)), [(1, 2), (0, 2), (-1, 2), (-2, 2)])

    def test_along_y(self):
        self.assertEqual(crossed((2, 1), (2, 4)), [(2, 1), (2, 2), (2, 3), (2, 4)])
        self.assertEqual(crossed((2, 1), (2, -2)), [(2, 1), (2, 0), (2, -1), (2, -2)])

    def test_along_both_diagonals(self):
        self.assertEqual(crossed((0, 0), (3, 3)), [(0, 0), (1, 1), (2, 2), (3, 3)])
        self.assertEqual(crossed((1, 1), (-1, -1)), [(1, 1), (0, 0), (-1, -1)])
        self.assertEqual(crossed((0, 3), (3, 0)), [(0, 3), (1, 2), (2, 1), (3, 0)])
        self.assertEqual(crossed((1, -1), (-1, 1)), [(1, -1), (0, 0), (-1, 1)])

    def test_simple_slopes(self):
        self.assertEqual(crossed((0, 0), (2, 1)), [(0, 0), (1, 0), (1, 1), (2, 1)])
        self.assertEqual(crossed((0, 0), (1, 2)), [(0, 0), (0, 1), (1, 1), (1, 2)])
        self.assertEqual(crossed((0, 0), (3, 1)), [(0, 0), (1, 0), (2, 1), (3, 1)])
        self.assertEqual(crossed((0, 0), (4, 2)), [(0, 0), (1, 0), (1, 1), (2, 1), (3, 1), (3, 2), (4, 2)])
        self.assertEqual(crossed((0, 0), (5, 1)), [(0, 0), (1, 0), (2, 0), (3, 1), (4, 1), (5, 1)])

    def test_a_slope_that_is_not_simple(self):
        self.assertEqual(
            crossed((0, 0), (5, 2)),
            [(0, 0), (1, 0), (1, 1), (2, 1), (3, 1), (4, 1), (4, 2), (5, 2)],
        )
        self.assertEqual(
            crossed((-2, 3), (1, -1)),
            [(-2, 3), (-2, 2), (-1, 2), (-1, 1), (0, 1), (0, 0), (1, 0), (1, -1)],
        )

    def test_a_long_line(self):
        told = crossed((-1000, 7), (1000, 8))
        self.assertEqual(len(told), 2002)
        self.assertEqual(told[1000:1002], [(0, 7), (0, 8)])


class PinchedByHand(unittest.TestCase):
    def test_nothing(self):
        for other in [(0, 0), (4, 0), (-4, 0), (0, 4), (0, -4), (2, 1), (1, 2), (-2, 1), (5, 2), (4, 2)]:
            self.assertEqual(pinched((0, 0), other), [])

    def test_one_corner(self):
        self.assertEqual(pinched((0, 0), (1, 1)), [((0, 1), (1, 0))])
        self.assertEqual(pinched((0, 0), (-1, -1)), [((-1, 0), (0, -1))])
        self.assertEqual(pinched((0, 0), (1, -1)), [((0, -1), (1, 0))])
        self.assertEqual(pinched((0, 0), (-1, 1)), [((-1, 0), (0, 1))])

    def test_both_diagonals(self):
        self.assertEqual(pinched((0, 0), (3, 3)), [((0, 1), (1, 0)), ((1, 2), (2, 1)), ((2, 3), (3, 2))])
        self.assertEqual(pinched((3, 3), (0, 0)), [((2, 3), (3, 2)), ((1, 2), (2, 1)), ((0, 1), (1, 0))])
        self.assertEqual(pinched((-1, 1), (1, -1)), [((-1, 0), (0, 1)), ((0, -1), (1, 0))])

    def test_slopes_that_meet_corners(self):
        self.assertEqual(pinched((0, 0), (3, 1)), [((1, 1), (2, 0))])
        self.assertEqual(pinched((0, 0), (1, 3)), [((0, 2), (1, 1))])
        self.assertEqual(pinched((0, 0), (6, 2)), [((1, 1), (2, 0)), ((4, 2), (5, 1))])
        self.assertEqual(pinched((0, 0), (-3, -1)), [((-2, 0), (-1, -1))])
        self.assertEqual(pinched((0, 0), (5, 3)), [((2, 2), (3, 1))])


class AgainstTheWords(unittest.TestCase):
    def test_crossed(self):
        for one, other in lines():
            self.assertEqual(crossed(one, other), slow_crossed(one, other), (one, other))

    def test_pinched(self):
        for one, other in lines():
            self.assertEqual(pinched(one, other), slow_pinched(one, other), (one, other))

    def test_kinds(self):
        for one, other in lines():
            self.assertIsInstance(crossed(one, other), list)
            self.assertIsInstance(pinched(one, other), list)
            for cell in crossed(one, other):
                self.assertIsInstance(cell, tuple)
            for couple in pinched(one, other):
                self.assertIsInstance(couple, tuple)
                self.assertEqual(len(couple), 2)
                self.assertLess(couple[0], couple[1])


class Meets(unittest.TestCase):
    def test_what_is_crossed_or_pinched(self):
        for one, other in lines():
            if abs(other[0] - one[0]) > 5 or abs(other[1] - one[1]) > 5 or one == other:
                continue
            met = crossed(one, other) + [cell for couple in pinched(one, other) for cell in couple]
            for x in range(one[0] - 7, one[0] + 8):
                for y in range(one[1] - 7, one[1] + 8):
                    self.assertIs(meets(one, other, (x, y)), (x, y) in met, (one, other, x, y))


class ForAllLines(unittest.TestCase):
    def test_from_the_one_to_the_other(self):
        for one, other in lines():
            told = crossed(one, other)
            self.assertEqual((told[0], told[-1]), (one, other))

    def test_there_and_back(self):
        for one, other in lines():
            self.assertEqual(crossed(other, one), crossed(one, other)[::-1], (one, other))
            self.assertEqual(pinched(other, one), pinched(one, other)[::-1], (one, other))

    def test_mirrored(self):
        def turn(cell):
            return (11 - cell[0], cell[1])

        self.all_turned(turn)

    def test_flipped(self):
        def turn(cell):
            return (cell[1], cell[0])

        self.all_turned(turn)

    def all_turned(self, turn):
        for one, other in lines():
            cells = [turn(cell) for cell in crossed(one, other)]
            couples = [tuple(sorted(map(turn, couple))) for couple in pinched(one, other)]
            self.assertEqual(crossed(turn(one), turn(other)), cells, (one, other))
            self.assertEqual(pinched(turn(one), turn(other)), couples, (one, other))

    def test_new_lists_each_time(self):
        for asked in (crossed, pinched):
            told = asked((0, 0), (3, 3))
            before = list(told)
            told.clear()
            self.assertEqual(asked((0, 0), (3, 3)), before)


if __name__ == "__main__":
    unittest.main()
