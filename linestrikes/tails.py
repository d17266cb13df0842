"""Tails: what is kept of the last cells of a line that is walked through cell by cell, each told by a number.

It has a digit of four bits for each cell, the number of the cell, and ahead of them one digit more: 1 if these are all
cells of the line so far, otherwise 2.
"""

BITS_OF_DIGIT = 4
DIGIT = 15
# The tail of no cells, and the first digit of what are not all cells.
NO_CELLS = 1
FIRST_LEFT_OUT = 2


class Tails:
    """The tails of at most so many cells."""

    def __init__(self, reach):
        self.longest = NO_CELLS << (BITS_OF_DIGIT * reach)
        self.mask = self.longest - 1
        self.cut = FIRST_LEFT_OUT << (BITS_OF_DIGIT * reach)

    def room_behind(self, tail):
        """The tail behind a tail, but with 0 in the place of the number of its last cell."""
        longer = tail << BITS_OF_DIGIT
        return longer if tail < self.longest else self.cut + (longer & self.mask)

    def digit_of(self, number):
        """What the number of the last cell adds to a tail: nothing if no cell is kept."""
        return number & self.mask


def tail_of(is_start, numbers):
    """The tail of cells with these numbers."""
    tail = NO_CELLS if is_start else FIRST_LEFT_OUT
    for number in numbers:
        tail = (tail << BITS_OF_DIGIT) + number
    return tail


def length_of(tail):
    """How many cells a tail has."""
    return tail.bit_length() // BITS_OF_DIGIT


def has_all_cells(tail):
    """Whether these are all cells of the line so far."""
    # The first digit alone has fewer than four bits: one if it is 1, two if it is 2.
    return tail.bit_length() & 3 == 1


def numbers_of_tail(tail):
    """The tuple of the numbers of the cells of a tail."""
    many = length_of(tail)
    return tuple([(tail >> (BITS_OF_DIGIT * k)) & DIGIT for k in range(many - 1, -1, -1)])
