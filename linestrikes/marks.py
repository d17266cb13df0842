"""Cells and values that are told by numbers; a mark is a place and the number of the sure cell of a value there."""


def bits_of(number):
    """The numbers of the sure cells within a cell, in the order of the values."""
    return [1 << k for k in range(number.bit_length()) if (number >> k) & 1]


def cells_within(number):
    """The numbers of the cells within a cell that are not empty, ascending."""
    return [part for part in range(1, number + 1) if part & ~number == 0]


def marks_of(numbers):
    """The marks for each value of each cell, cell by cell."""
    return [(place, bit) for place, number in enumerate(numbers) for bit in bits_of(number)]


def marked_numbers(numbers, place, bit):
    """The numbers of the cells if the one at this place has one value alone."""
    return [*numbers[:place], bit, *numbers[place + 1:]]
