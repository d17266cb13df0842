"""Compares strikers: which one leaves less, and which rules of a book are needed."""

from linestrikes.books import Book
from linestrikes.checks import refuse_wrong_most, same_values
from linestrikes.lines import line_of
from linestrikes.sound import Judgement, Shown
from linestrikes.stands import DoubleStands, reach_of
from linestrikes.tours import tour
from linestrikes.values import numbers_of
from linestrikes.windows import Windows

# The parts of a striker of which all may strike.
ALL_PARTS = -1
MOST_OF_BOOKS = 4000


class Stronger(Judgement):
    """All double stands that are come to."""

    def __init__(self, table):
        Judgement.__init__(self, "stronger", (table,))
        self.table = table


class Parted(Shown):
    """The least line that is stable for one striker and not for the other one."""

    def __init__(self, line):
        Shown.__init__(self, "parted", (tuple(numbers_of(line)),))
        self.line = line


def judge_stronger(one, other, *, most=4000):
    """A Stronger if one is stronger than the other one, otherwise a Parted."""
    same_values(one, other)
    refuse_wrong_most(most)
    reach = reach_of(max(one.width, other.width))
    found, numbers = tour(DoubleStands(Windows(one), ALL_PARTS, Windows(other), ALL_PARTS, reach), most)
    if numbers is not None:
        return Parted(line_of(one.alphabet, numbers))
    return Stronger(tuple(sorted(found)))


def parting(one, other, *, most=4000):
    """The least line that is stable for just one of both, None if there is none."""
    forth = judge_stronger(one, other, most=most)
    back = judge_stronger(other, one, most=most)
    lines = [judged.line for judged in (forth, back) if not judged]
    if not lines:
        return None
    return min(lines, key=numbers_by_length)


def alike(one, other, *, most=4000):
    """Whether both are stable for the same lines."""
    return parting(one, other, most=most) is None


def needless(book):
    """The numbers of the rules without which the book is alike to it."""
    parts = BookParts(book)
    return tuple([number for number in range(len(book)) if parts.are_alike(parts.every, parts.without(number))])


def trimmed(book):
    """The book without rules that are needless, from the last one on."""
    parts = BookParts(book)
    standing = parts.every
    for number in range(len(book) - 1, -1, -1):
        rest = standing & parts.without(number)
        if parts.are_alike(standing, rest):
            standing = rest
    return Book.of(book.alphabet, parts.rules_of(standing))


def keepers(book):
    """For each rule the least line on which it alone strikes, None if it is needless."""
    parts = BookParts(book)
    return tuple([parts.parting_line(parts.without(number), parts.every) for number in range(len(book))])


class BookParts:
    """The books with some of the rules of a book: a part is told by the sum of 2 ** number over its rules."""

    def __init__(self, book):
        self.book = book
        self.windows = Windows(book)
        self.every = (1 << len(book)) - 1

    def without(self, number):
        """The part of all rules but this one."""
        return self.every & ~(1 << number)

    def rules_of(self, part):
        """The list of the rules of a part."""
        return [rule for number, rule in enumerate(self.book.rules) if (part >> number) & 1]

    def parting_line(self, one, other):
        """The least line that is stable for one part and not for another one, None if there is none."""
        reach = reach_of(max([len(rule) for rule in self.rules_of(one | other)], default=0))
        _, numbers = tour(DoubleStands(self.windows, one, self.windows, other, reach), MOST_OF_BOOKS)
        return None if numbers is None else line_of(self.book.alphabet, numbers)

    def are_alike(self, one, other):
        """Whether two parts are stable for the same lines."""
        forth = self.parting_line(one, other)
        back = self.parting_line(other, one)
        return forth is None and back is None


def numbers_by_length(line):
    """What orders lines: their lengths, then the numbers of their cells."""
    return len(line), numbers_of(line)
