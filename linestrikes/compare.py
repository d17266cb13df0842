"""Compares strikers: which one leaves less, and which rules of a book are needed."""

from linestrikes.books import Book
from linestrikes.checks import refuse_wrong_most, same_values
from linestrikes.lines import line_of
from linestrikes.sound import Judgement, Shown
from linestrikes.stands import DoubleStands, reach_of
from linestrikes.tours import tour
from linestrikes.values import numbers_of

# The parts of a striker of which all may strike.
ALL_PARTS = -1
MOST_OF_BOOKS = 4000


class Stronger(Judgement):
    """All double stands that are come to."""

    def __init__(self, table):
        Judgement.__init__(self, "stronger", (table,))
        self.table = table


class Parted(Shown):
    """The least line that is stable for one striker and not for the other one."""

    def __init__(self, line):
        Shown.__init__(self, "parted", (tuple(numbers_of(line)),))
        self.line = line


def judge_stronger(one, other, *, most=4000):
    """A Stronger if one is stronger than the other one, otherwise a Parted."""
    same_values(one, other)
    refuse_wrong_most(most)
    stands = all_double_stands(one, other)
    found, numbers = tour(stands, most)
    if numbers is not None:
        return Parted(line_of(one.alphabet, numbers))
    return Stronger(stands.told_stands(found))


def parting(one, other, *, most=4000):
    """The least line that is stable for just one of both, None if there is none."""
    same_values(one, other)
    refuse_wrong_most(most)
    stands = all_double_stands(one, other)
    _, forth = tour(stands, most)
    _, back = tour(stands.turned(), most)
    rows = [(len(numbers), numbers) for numbers in (forth, back) if numbers is not None]
    return line_of(one.alphabet, min(rows)[1]) if rows else None


def alike(one, other, *, most=4000):
    """Whether both are stable for the same lines."""
    return parting(one, other, most=most) is None


def needless(book):
    """The numbers of the rules without which the book is alike to it."""
    parts = BookParts(book)
    return tuple([number for number in range(len(book)) if parts.are_alike(parts.every, parts.without(number))])


def trimmed(book):
    """The book without rules that are needless, from the last one on."""
    parts = BookParts(book)
    standing = parts.every
    for number in range(len(book) - 1, -1, -1):
        rest = standing & parts.without(number)
        if parts.are_alike(standing, rest):
            standing = rest
    return Book.of(book.alphabet, parts.rules_of(standing))


def keepers(book):
    """For each rule the least line on which it alone strikes, None if it is needless."""
    parts = BookParts(book)
    return tuple([parts.parting_line(parts.without(number), parts.every) for number in range(len(book))])


def all_double_stands(one, other):
    """The double stands of two strikers, all parts of which strike."""
    reach = reach_of(max(one.width, other.width))
    return DoubleStands(one.walked(), ALL_PARTS, other.walked(), ALL_PARTS, reach, one.alphabet.full.number)


class BookParts:
    """The books with some of the rules of a book: a part is told by the sum of 2 ** number over its rules."""

    def __init__(self, book):
        self.book = book
        self.windows = book.walked()
        self.full_number = book.alphabet.full.number
        self.every = (1 << len(book)) - 1

    def without(self, number):
        """The part of all rules but this one."""
        return self.every & ~(1 << number)

    def rules_of(self, part):
        """The list of the rules of a part."""
        return [rule for number, rule in enumerate(self.book.rules) if (part >> number) & 1]

    def reach_of_part(self, part):
        """The reach of the book with the rules of a part."""
        return reach_of(max([len(rule) for rule in self.rules_of(part)], default=0))

    def parting_line(self, fewer, more):
        """The least line that is stable for a part and not for one with more rules, None if there is none."""
        stands = DoubleStands(self.windows, fewer, self.windows, more, self.reach_of_part(more), self.full_number)
        _, numbers = tour(stands, MOST_OF_BOOKS)
        return None if numbers is None else line_of(self.book.alphabet, numbers)

    def are_alike(self, more, fewer):
        """Whether a part is stable for the same lines as one with fewer rules."""
        reach = self.reach_of_part(more)
        if most_stands(self.full_number, reach) > MOST_OF_BOOKS:
            # More rules are surely stronger, so that this way tells nothing but that there are too many stands.
            tour(DoubleStands(self.windows, more, self.windows, fewer, reach, self.full_number), MOST_OF_BOOKS)
        return self.parting_line(fewer, more) is None


def most_stands(full_number, reach):
    """How many double stands of a striker and of a weaker one there may be at most.

    Each row of at most as many cells as the reach is that of one stand. Behind a line with more cells come at most
    three for each tail, as none is struck and the line may end for the weaker one wherever it may for the other one.
    """
    rows = [1]
    for _ in range(reach):
        rows.append(rows[-1] * full_number)
    return sum(rows) + 3 * rows[-1]
