"""Reads lines, books, clues and trails from texts."""

from linestrikes.books import Book
from linestrikes.clues import Machine
from linestrikes.cursor import Cursor
from linestrikes.errors import BadText
from linestrikes.kind_rows import clue_of_kind, read_kind
from linestrikes.lines import Line
from linestrikes.rules import read_rule


class Rows:
    """Goes through the lines of a text."""

    def __init__(self, text):
        if not isinstance(text, str):
            raise BadText(0, 0)
        self.parts = text.split("\n")
        self.at = 0

    def is_done(self):
        """Whether no line comes."""
        return self.at == len(self.parts)

    def next_row(self):
        """A cursor for the line that comes, which is stepped over."""
        if self.is_done():
            raise BadText(self.at, 0)
        self.at += 1
        return Cursor(self.at - 1, self.parts[self.at - 1])

    def read_head(self, word):
        """Steps over the first line, which has this word, and tells the values."""
        cursor = self.next_row()
        cursor.expect([word])
        values = cursor.read_values()
        cursor.finish()
        return values

    def finish(self):
        """Refuses a line too many."""
        if not self.is_done():
            raise BadText(self.at, 0)


def read_line(text):
    """The line with this text."""
    rows = Rows(text)
    values = rows.read_head("line")
    cursor = rows.next_row()
    cursor.expect(["cells"])
    line = read_cells_row(values, cursor)
    rows.finish()
    return line


def read_book(text):
    """The book with this text."""
    rows = Rows(text)
    values = rows.read_head("book")
    rules = []
    while not rows.is_done():
        cursor = rows.next_row()
        cursor.expect(["rule"])
        rules.append(read_rule(values, cursor))
        cursor.finish()
    return Book.of(values, rules)


def read_clue(text):
    """The clue with this text."""
    rows = Rows(text)
    values = rows.read_head("clue")
    cursor = rows.next_row()
    if cursor.accept("machine"):
        cursor.finish()
        return read_machine(values, rows)
    kinds = [read_kind(values, cursor)]
    while not rows.is_done():
        kinds.append(read_kind(values, rows.next_row()))
    clues = [clue_of_kind(values, kind) for kind in kinds]
    joined = clues[0]
    for clue in clues[1:]:
        joined = joined & clue
    return joined


def read_machine(values, rows):
    """The clue with the machine whose states come, one at least."""
    steps = []
    told = []
    while not steps or not rows.is_done():
        cursor = rows.next_row()
        told.append(cursor.expect(["yes", "no"]) == "yes")
        steps.append([cursor.read_number() for _ in values.letters])
        cursor.finish()
    return Machine(values, steps, told)


def read_trail(text):
    """The pair of the strikes and of what is left with this text."""
    rows = Rows(text)
    values = rows.read_head("trail")
    strikes = []
    cursor = rows.next_row()
    while cursor.accept("strike"):
        place = cursor.read_number()
        number = cursor.read_number()
        cursor.finish()
        strikes.append((place, number))
        cursor = rows.next_row()
    left = None
    if cursor.expect(["left", "clash"]) == "left":
        left = read_cells_row(values, cursor)
    cursor.finish()
    rows.finish()
    return tuple(strikes), left


def read_cells_row(values, cursor):
    """The line with the CELLs that come up to the end of a line of a text."""
    cells = cursor.read_cells(values, Line.LONGEST)
    cursor.finish()
    return Line(values, cells)


READERS = {"line": read_line, "book": read_book, "clue": read_clue, "trail": read_trail}


def read(text):
    """The line, book, clue or trail with this text."""
    rows = Rows(text)
    cursor = rows.next_row()
    word = cursor.expect(list(READERS))
    reader = READERS[word]
    return reader(text)
