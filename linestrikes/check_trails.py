"""Looks at strikes that are said to lead to what is left of a line, or to a clash."""

from linestrikes.checks import is_from, is_integer, same_values
from linestrikes.lines import line_of
from linestrikes.values import numbers_of


def shows_left(book, line, strikes, left):
    """Whether any values show that this is left of a line."""
    same_values(book, line)
    numbers = numbers_behind(book, line, strikes)
    if numbers is None or 0 in numbers or book.first_strike(numbers, 0) is not None:
        return False
    return line_of(line.alphabet, numbers) == left


def shows_clash(book, line, strikes):
    """Whether any value shows that the book clashes at a line."""
    same_values(book, line)
    numbers = numbers_behind(book, line, strikes)
    return numbers is not None and 0 in numbers


def numbers_behind(book, line, strikes):
    """The numbers of the cells behind the strikes, of which the last one alone may leave an empty cell.

    None for any value that is no row of such strikes.
    """
    if not isinstance(strikes, (list, tuple)):
        return None
    numbers = numbers_of(line)
    is_empty_left = False
    for strike in strikes:
        if is_empty_left or not strikes_there(book, numbers, strike):
            return None
        place, bit = book.target(strike)
        numbers[place] = numbers[place] & ~bit
        is_empty_left = numbers[place] == 0
    return numbers


def strikes_there(book, numbers, strike):
    """Whether any value is a strike of the book on the line with cells of these numbers."""
    if not isinstance(strike, tuple) or len(strike) != 2:
        return False
    place, number = strike
    if not is_integer(place) or not is_from(number, 0, len(book) - 1):
        return False
    return book[number].hits_at(numbers, place)
