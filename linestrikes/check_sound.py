"""Looks at what is said to show that a book is sound, or that it is not."""

from linestrikes.checks import is_from, is_index_row, is_integer, same_values
from linestrikes.lines import Line
from linestrikes.states import StateSets, set_of


def shows_sound(book, clue, thing):
    """Whether any value shows that a book is sound."""
    same_values(book, clue)
    if not isinstance(thing, tuple) or len(thing) != 2:
        return False
    lost, rows = thing
    sets = StateSets(clue)
    if not is_index_row(lost, len(clue)) or not isinstance(rows, tuple) or len(rows) != len(book):
        return False
    lost_set = set_of(lost)
    if lost_set & sets.told_ones or sets.behind(lost_set, clue.alphabet.full.number) & ~lost_set:
        return False
    return all([shows_rows(sets, lost_set, rule, row) for rule, row in zip(book.rules, rows)])


def shows_rows(sets, lost_set, rule, rows):
    """Whether any value is a tuple of rows that show that a rule is sound."""
    if not isinstance(rows, tuple) or len(rows) != len(rule) + 1:
        return False
    if not all([is_index_row(row, len(sets.steps)) for row in rows]):
        return False
    told = [set_of(row) for row in rows]
    if (1 if rule.left else sets.every) & ~told[0]:
        return False
    for at, number in enumerate(rule.wanted):
        if sets.behind(told[at], rule.bit if at == rule.at else number) & ~told[at + 1]:
            return False
    return told[-1] & (sets.told_ones if rule.right else ~lost_set) == 0


def shows_unsound(book, clue, thing):
    """Whether any value shows that a book is not sound."""
    same_values(book, clue)
    if not isinstance(thing, tuple) or len(thing) != 3:
        return False
    word, place, number = thing
    if word not in clue or not 1 <= len(word) <= Line.LONGEST:
        return False
    if not is_integer(place) or not is_from(number, 0, len(book) - 1):
        return False
    numbers = [1 << clue.alphabet.letters.index(letter) for letter in word]
    return book[number].hits_at(numbers, place)
