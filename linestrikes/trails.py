"""Trails: the strikes of a book on a line, and where they lead."""

from linestrikes.checks import same_values
from linestrikes.lines import line_of
from linestrikes.values import numbers_of


class Trail:
    """The strikes in the book's order, and what is left, or the place of the clash."""

    def __init__(self, done, left, clash):
        self.done = done
        self.left = left
        self.clash = clash


def trail(book, line):
    """The strikes of a book on a line."""
    same_values(book, line)
    done, numbers, clash = book.followed(numbers_of(line))
    left = None if clash is not None else line_of(line.alphabet, numbers)
    return Trail(tuple(done), left, clash)
