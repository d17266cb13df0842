"""Stable lines, and joins of lines."""

from linestrikes.checks import refuse_wrong_most, same_values
from linestrikes.errors import NothingTold, TooMany, Unlike
from linestrikes.lines import line_of
from linestrikes.marks import cells_within
from linestrikes.values import numbers_of
from linestrikes.windows import Windows


def stable_lines(striker, line, *, most=4000):
    """The stable lines within a line, ordered by the numbers of their cells."""
    same_values(striker, line)
    refuse_wrong_most(most)
    numbers = numbers_of(line)
    refuse_many_lines(numbers, most)
    values = line.alphabet
    for row in stable_rows(striker, numbers):
        yield line_of(values, row)


def join(lines):
    """The new line whose cells have all values that one of the lines has there."""
    if not lines:
        raise NothingTold("lines")
    first = lines[0]
    if any([line.alphabet != first.alphabet for line in lines]):
        raise Unlike("values")
    if any([len(line) != len(first) for line in lines]):
        raise Unlike("length")
    joined = numbers_of(first)
    for line in lines:
        joined = [mine | their for mine, their in zip(joined, numbers_of(line))]
    return line_of(first.alphabet, joined)


def refuse_many_lines(numbers, most):
    """Raises TooMany if more lines, stable or not, are within the line with cells of these numbers."""
    total = 1
    for number in numbers:
        total = total * len(cells_within(number))
        if total > most:
            raise TooMany("lines", most)


def stable_rows(striker, numbers):
    """The rows of numbers of the stable lines, in order."""
    windows = Windows(striker)
    width = max(1, striker.width)
    rows = [()]
    for at, number in enumerate(numbers):
        start = max(0, at + 1 - width)
        parts = cells_within(number)
        longer = [(*row, part) for row in rows for part in parts]
        rows = [row for row in longer if not windows.look(row[start:], start == 0)[0]]
    start = max(0, len(numbers) - width)
    return [row for row in rows if not windows.look(row[start:], start == 0)[1]]
