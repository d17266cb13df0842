"""Stable lines, and joins of lines."""

from linestrikes.checks import refuse_wrong_most, same_values
from linestrikes.errors import NothingTold, TooMany, Unlike
from linestrikes.lines import line_of
from linestrikes.marks import cells_within
from linestrikes.stands import reach_of
from linestrikes.tails import NO_CELLS, Tails
from linestrikes.values import numbers_of


def stable_lines(striker, line, *, most=4000):
    """The stable lines within a line, ordered by the numbers of their cells."""
    same_values(striker, line)
    refuse_wrong_most(most)
    numbers = numbers_of(line)
    refuse_many_lines(numbers, most)
    values = line.alphabet
    for row in stable_rows(striker, numbers):
        yield line_of(values, row)


def join(lines):
    """The new line whose cells have all values that one of the lines has there."""
    if not lines:
        raise NothingTold("lines")
    first = lines[0]
    if any([line.alphabet != first.alphabet for line in lines]):
        raise Unlike("values")
    if any([len(line) != len(first) for line in lines]):
        raise Unlike("length")
    joined = numbers_of(first)
    for line in lines:
        joined = [mine | their for mine, their in zip(joined, numbers_of(line))]
    return line_of(first.alphabet, joined)


def refuse_many_lines(numbers, most):
    """Raises TooMany if more lines, stable or not, are within the line with cells of these numbers."""
    total = 1
    for number in numbers:
        total = total * len(cells_within(number))
        if total > most:
            raise TooMany("lines", most)


def stable_rows(striker, numbers):
    """The rows of numbers of the stable lines, in order."""
    windows = striker.walked()
    tails = Tails(reach_of(striker.width))
    rows = [((), NO_CELLS, True)]
    for number in numbers:
        parts = cells_within(number)
        rows = [longer for row, tail, _ in rows for longer in rows_behind(windows, tails, row, tail, parts)]
    return [row for row, _, may_end in rows if may_end]


def rows_behind(windows, tails, row, tail, parts):
    """The row with each of some cells that strikes nothing, with its tail and whether the line may end there."""
    struck, struck_at_end = windows.behind(tail)
    room = tails.room_behind(tail)
    return [((*row, part), room + tails.digit_of(part), not struck_at_end[part]) for part in parts if not struck[part]]
