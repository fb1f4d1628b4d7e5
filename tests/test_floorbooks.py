"""Promise 15.1, and 0.2 (g) and 0.3 as far as they speak of the text of several floors."""

import itertools
import random
import unittest

from helper import BARE, FULL, ROOMS, SMALL_FLOORS, scattered, whole_area
from lampfloor.errors import LampError, NoText
from lampfloor.floorbooks import book_text, read_book
from lampfloor.writing import read, written

SINGLE = (1, 1, ())
LARGE_FLOORS = [(12, 12, ()), scattered(12, 12, 60, 150), (12, 1, ()), (1, 12, ())]


class BookByHand(unittest.TestCase):
    def test_one_floor(self):
        for floor in SMALL_FLOORS:
            self.assertEqual(book_text([floor]), written(floor))
            self.assertEqual(read_book(written(floor)), [floor])

    def test_several(self):
        floors = [(3, 2, ((0, 1), (2, 0))), SINGLE, (1, 2, ((0, 0),))]
        self.assertEqual(book_text(floors), "..#\n#..\n\n.\n\n#\n.")
        self.assertEqual(read_book("..#\n#..\n\n.\n\n#\n."), floors)

    def test_the_same_floor_more_than_once(self):
        self.assertEqual(book_text([SINGLE] * 3), ".\n\n.\n\n.")
        self.assertEqual(read_book(".\n\n.\n\n."), [SINGLE] * 3)

    def test_in_their_order(self):
        self.assertEqual(read_book("#\n\n."), [(1, 1, ((0, 0),)), SINGLE])
        self.assertEqual(read_book(".\n\n#"), [SINGLE, (1, 1, ((0, 0),))])

    def test_one_line_end_is_within_a_floor(self):
        self.assertEqual(read_book("..\n.."), [(2, 2, ())])
        self.assertEqual(read_book("..\n..\n\n..\n.."), [(2, 2, ()), (2, 2, ())])
        self.assertEqual(read_book("..\n\n..\n\n..\n\n.."), [(2, 1, ())] * 4)

    def test_floors_of_unlike_size(self):
        floors = [BARE, FULL, ROOMS] + LARGE_FLOORS
        self.assertEqual(read_book(book_text(floors)), floors)

    def test_many_floors(self):
        floors = [scattered(3, 4, number % 12, number) for number in range(100)]
        self.assertEqual(read_book(book_text(floors)), floors)


class ReadBack(unittest.TestCase):
    def test_a_text_reads_back_as_what_it_writes(self):
        chance = random.Random(151)
        for many in range(1, 12):
            floors = [chance.choice(SMALL_FLOORS + LARGE_FLOORS) for _ in range(many)]
            before = list(floors)
            self.assertEqual(read_book(book_text(floors)), floors)
            self.assertEqual(floors, before)

    def test_and_as_nothing_else(self):
        """All texts of up to eight signs: each is read as floors whose writing it is, or refused."""
        writings = {}
        floors = [(wide, high) for wide in range(1, 9) for high in range(1, 9) if wide * high + high - 1 <= 8]
        texts = {}
        for wide, high in floors:
            for signs in itertools.product("#.", repeat=wide * high):
                walls = tuple(cell for cell, sign in zip(whole_area((wide, high)), signs) if sign == "#")
                texts[written((wide, high, walls))] = (wide, high, walls)
        for many in (1, 2, 3):
            short = {text: floor for text, floor in texts.items() if len(text) <= 8 - 3 * (many - 1)}
            for parts in itertools.product(short, repeat=many):
                text = "\n\n".join(parts)
                if len(text) <= 8:
                    writings[text] = [texts[part] for part in parts]
        for length in range(9):
            for signs in itertools.product("#.\n", repeat=length):
                text = "".join(signs)
                if text in writings:
                    self.assertEqual(read_book(text), writings[text])
                else:
                    self.assertRaises(NoText, read_book, text)


class Refusals(unittest.TestCase):
    def refused(self, text):
        with self.assertRaises(NoText, msg=repr(text)) as taken:
            read_book(text)
        self.assertIsInstance(taken.exception, LampError)

    def test_the_empty_text(self):
        self.refused("")

    def test_one_line_end_or_three_between_two(self):
        self.refused("..\n...")
        self.refused("..\n..\n...\n...")
        for many in (3, 4, 5, 6):
            self.refused(".." + "\n" * many + "..")
            self.refused("..\n\n.." + "\n" * many + "..")

    def test_empty_lines_at_the_begin_and_at_the_end(self):
        for ends in ("\n", "\n\n", "\n\n\n", "\n\n\n\n"):
            for text in (".", "..\n..", "..\n\n..."):
                self.refused(ends + text)
                self.refused(text + ends)
            self.refused(ends)

    def test_a_floor_that_is_none_anywhere(self):
        for wrong in ("..\n.", "x", " ", ". ", "." * 13, "\n".join("." * 13), "..\r\n..", "?"):
            for text in (wrong, wrong + "\n\n.", ".\n\n" + wrong, ".\n\n" + wrong + "\n\n."):
                self.refused(text)

    def test_other_line_ends(self):
        for between in ("\r\n\r\n", "\n\r\n", "\n \n", "\r\r", "\n\n ", " \n\n", "\n\t\n", "\x0c"):
            self.refused("." + between + ".")


class NothingIsKept(unittest.TestCase):
    def test_a_new_list_each_time(self):
        text = book_text([ROOMS, BARE])
        told = read_book(text)
        self.assertIs(told.__class__, list)
        told.clear()
        self.assertEqual(read_book(text), [ROOMS, BARE])
        self.assertEqual(read(text.split("\n\n")[0]), ROOMS)


if __name__ == "__main__":
    unittest.main()
