"""Looks at what is said to show how strikers compare, and which rules of a book are needed."""

from linestrikes.books import Book
from linestrikes.check_complete import is_line_of_numbers, is_table
from linestrikes.checks import is_index_row, same_values
from linestrikes.compare import all_double_stands
from linestrikes.lines import line_of


def shows_stronger(one, other, thing):
    """Whether any value shows that one striker is stronger than another one."""
    same_values(one, other)
    if not isinstance(thing, tuple):
        return False
    return is_table(all_double_stands(one, other), thing)


def shows_parted(one, other, thing):
    """Whether any value tells a line that is stable for one striker and not for another one."""
    same_values(one, other)
    if not is_line_of_numbers(one.alphabet, thing):
        return False
    line = line_of(one.alphabet, thing)
    return one.is_stable(line) and not other.is_stable(line)


def shows_trimmed(book, rows, lines):
    """Whether any values show that of some rules of a book each one is needed."""
    if not is_index_row(rows, len(book)) or not isinstance(lines, tuple) or len(lines) != len(rows):
        return False
    return all([keeps(book, rows, number, numbers) for number, numbers in zip(rows, lines)])


def keeps(book, rows, number, thing):
    """Whether any value tells a line on which, of some rules of a book, the one with this number alone strikes."""
    if not is_line_of_numbers(book.alphabet, thing):
        return False
    line = line_of(book.alphabet, thing)
    rest = Book.of(book.alphabet, [book[other] for other in rows if other != number])
    return rest.is_stable(line) and not Book(book.alphabet, book[number]).is_stable(line)
