"""Looks at what is said to show what right words leave of a line, and searches for nothing."""

from linestrikes.checks import is_from, same_values
from linestrikes.lines import Line
from linestrikes.marks import marked_numbers, marks_of
from linestrikes.states import StateSets
from linestrikes.values import numbers_of


def shows_barred(clue, line, sets, place=None, value=None):
    """Whether any value shows that no right word fits a line, or none with this value there."""
    same_values(clue, line)
    numbers = numbers_of(line)
    if place is not None or value is not None:
        if not is_from(place, 0, len(numbers) - 1) or value not in line[place]:
            return False
        numbers = marked_numbers(numbers, place, line.alphabet.cell(value).number)
    return StateSets(clue).is_barring(numbers, sets)


def shows_left_by(clue, line, left, words, barred):
    """Whether any values show that right words leave this of a line."""
    same_values(clue, line)
    if not isinstance(words, tuple) or not isinstance(barred, tuple):
        return False
    sets = StateSets(clue)
    numbers = numbers_of(line)
    if left is None:
        return len(words) == 0 and len(barred) == 1 and sets.is_barring(numbers, barred[0])
    if not is_line_within(left, line):
        return False
    kept = numbers_of(left)
    struck = [number & ~mine for number, mine in zip(numbers, kept)]
    return are_shown(clue, line, kept, words) and are_barred(sets, numbers, struck, barred)


def is_line_within(thing, line):
    """Whether any value is a line with the same values and length within a line."""
    if not isinstance(thing, Line) or thing.alphabet != line.alphabet or len(thing) != len(line):
        return False
    return thing.within(line)


def are_shown(clue, line, kept, words):
    """Whether the words are right, fit the line, and have the values of the cells with these numbers, one by one."""
    marks = marks_of(kept)
    if len(words) != len(marks):
        return False
    for word, (place, bit) in zip(words, marks):
        if word not in line or word not in clue:
            return False
        if word[place] != clue.alphabet.letters[bit.bit_length() - 1]:
            return False
    return True


def are_barred(sets, numbers, struck, barred):
    """Whether the sets show, one by one, that no right word has the values of the struck ones."""
    marks = marks_of(struck)
    if len(barred) != len(marks):
        return False
    return all([sets.is_barring(marked_numbers(numbers, place, bit), row)
                for row, (place, bit) in zip(barred, marks)])
