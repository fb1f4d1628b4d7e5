"""Promise 11.1, and 0.2 (g) and 0.3 as far as they speak of the text of a floor."""

import itertools
import unittest

from helper import BARE, FULL, ROOMS, SMALL_FLOORS, scattered, whole_area
from lampfloor.errors import LampError, NoText
from lampfloor.floors import is_floor
from lampfloor.writing import read, written

LARGE_FLOORS = [(12, 12, ()), (12, 12, tuple(whole_area((12, 12)))), scattered(12, 12, 60, 111)]
ALL_SIZES = [scattered(wide, high, wide * high // 3, 7) for wide in range(1, 13) for high in range(1, 13)]


class WrittenByHand(unittest.TestCase):
    def test_some(self):
        self.assertEqual(written((3, 2, ((0, 1), (2, 0)))), "..#\n#..")
        self.assertEqual(written((2, 3, ((0, 1), (1, 2)))), "..\n#.\n.#")
        self.assertEqual(written(ROOMS), "..#...\n.....#\n##.#..\n...#..\n.#....")

    def test_the_least_floors(self):
        self.assertEqual(written((1, 1, ())), ".")
        self.assertEqual(written((1, 1, ((0, 0),))), "#")

    def test_one_row_and_one_column(self):
        self.assertEqual(written((4, 1, ((1, 0),))), ".#..")
        self.assertEqual(written((1, 3, ((0, 2),))), ".\n.\n#")

    def test_bare_and_full(self):
        self.assertEqual(written(BARE), "....\n....\n....")
        self.assertEqual(written(FULL), "###\n###")
        self.assertEqual(written((12, 12, ())), "\n".join(["." * 12] * 12))

    def test_a_floor_somewhat_too_large_is_not_refused(self):
        self.assertEqual(written((13, 1, ((12, 0),))), "." * 12 + "#")


class ReadByHand(unittest.TestCase):
    def test_some(self):
        self.assertEqual(read("..#\n#.."), (3, 2, ((0, 1), (2, 0))))
        self.assertEqual(read("..\n#.\n.#"), (2, 3, ((0, 1), (1, 2))))
        self.assertEqual(read("."), (1, 1, ()))
        self.assertEqual(read("#"), (1, 1, ((0, 0),)))
        self.assertEqual(read(".\n.\n#"), (1, 3, ((0, 2),)))
        self.assertEqual(read("###\n###"), FULL)

    def test_the_walls_rise_by_x_then_by_y(self):
        self.assertEqual(read(".##\n#.#"), (3, 2, ((0, 1), (1, 0), (2, 0), (2, 1))))


class ReadBack(unittest.TestCase):
    def test_a_text_reads_back_as_what_it_writes(self):
        for floor in SMALL_FLOORS + LARGE_FLOORS + ALL_SIZES:
            self.assertEqual(read(written(floor)), floor)
            self.assertIs(is_floor(read(written(floor))), True)

    def test_and_as_nothing_else(self):
        """All texts of up to six signs: each is read as a floor whose writing it is, or refused."""
        writings = {}
        for wide in range(1, 7):
            for high in range(1, 7):
                if wide * high + high - 1 <= 6:
                    cells = whole_area((wide, high))
                    for many in range(len(cells) + 1):
                        for walls in itertools.combinations(cells, many):
                            writings[written((wide, high, walls))] = (wide, high, walls)
        for length in range(7):
            for signs in itertools.product("#.\n x", repeat=length):
                text = "".join(signs)
                if text in writings:
                    self.assertEqual(read(text), writings[text])
                else:
                    self.assertRaises(NoText, read, text)


class Refusals(unittest.TestCase):
    def refused(self, text):
        with self.assertRaises(NoText, msg=repr(text)) as taken:
            read(text)
        self.assertIsInstance(taken.exception, LampError)

    def test_the_empty_text(self):
        self.refused("")

    def test_line_ends_at_the_begin_and_at_the_end(self):
        for text in (".\n", "..\n..\n", "\n.", "\n..\n..", "\n", "\n\n", "\n.\n", "#\n\n", "\n" * 12):
            self.refused(text)

    def test_an_empty_row(self):
        for text in (".\n\n.", "..\n\n..", "##\n..\n\n##", ".\n\n\n."):
            self.refused(text)

    def test_rows_of_unlike_length(self):
        for text in ("..\n.", ".\n..", "...\n..\n...", "..\n...\n..", "#\n##", "##\n#", ".\n.#", ".#\n."):
            self.refused(text)
        self.refused("\n".join(["." * 12] * 11 + ["." * 11]))
        self.refused("\n".join(["." * 12] * 11 + ["." * 11 + ".#"]))

    def test_other_signs(self):
        for sign in " ?xX0,:*-_\t\r\v\f\0\x1c\x1d\x1e\x85\u2028\u2029\uff0e\uff03\u00e9":
            for text in (sign, "." + sign, sign + ".", ".." + sign + "\n...", ".\n" + sign, "." + sign + "\n.."):
                self.refused(text)

    def test_other_line_ends(self):
        for end in ("\r\n", "\r", "\n\r", "\x0b", "\x0c", "\u2028", "\n\n", " \n", "\n "):
            self.refused("##" + end + "..")
            self.refused("##\n.." + end)

    def test_blanks_around(self):
        for text in (" .", ". ", " ..\n.. ", "..\n ..", " "):
            self.refused(text)

    def test_a_row_and_a_column_too_many(self):
        for sign in ".#":
            for wide, high in ((13, 1), (1, 13), (13, 12), (12, 13), (13, 13), (40, 3), (3, 40)):
                self.refused("\n".join([sign * wide] * high))
            for wide, high in ((12, 1), (1, 12), (12, 12)):
                self.assertEqual(read("\n".join([sign * wide] * high))[:2], (wide, high))

    def test_written_words(self):
        for text in ("(1, 1, ())", "floor", "..#?", "None", "...\n...\n...\n."):
            self.refused(text)


if __name__ == "__main__":
    unittest.main()
