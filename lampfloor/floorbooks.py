"""Several floors in one text, one behind the other."""

from lampfloor.writing import read, written

BETWEEN = "\n\n"


def book_text(floors):
    return BETWEEN.join([written(floor) for floor in floors])


def read_book(text):
    # No writing of a floor begins or ends with a line end, or has two together, so there is one way to part them.
    return [read(part) for part in text.split(BETWEEN)]
