"""Looks at what is said to show that a striker is complete or exact, or that it is not complete."""

from linestrikes.books import Book
from linestrikes.check_sound import shows_sound
from linestrikes.checks import is_from, is_index_row, is_row, same_values
from linestrikes.lines import Line, line_of
from linestrikes.marks import marked_numbers
from linestrikes.stands import Stands
from linestrikes.states import StateSets


def shows_complete(striker, clue, thing):
    """Whether any value shows that a striker is complete."""
    same_values(striker, clue)
    if not isinstance(thing, tuple):
        return False
    return is_table(Stands(striker, clue), thing)


def is_table(stands, thing):
    """Whether the items of a tuple are stands, none twice, with all that come, none of which fails."""
    told = {}
    for item in thing:
        stand = stands.stand_from(item)
        if stand is None or stand in told or stands.fails(stand):
            return False
        told[stand] = True
    if stands.first_stand not in told:
        return False
    cores = {stands.core_of(stand): True for stand in told}
    return all([after in told for core in cores for _, after in stands.onward(core)])


def shows_incomplete(striker, clue, thing):
    """Whether any value shows that a striker is not complete."""
    same_values(striker, clue)
    if not isinstance(thing, tuple) or len(thing) != 4:
        return False
    numbers, place, value, sets = thing
    if not is_line_of_numbers(clue.alphabet, numbers) or not striker.is_stable(line_of(clue.alphabet, numbers)):
        return False
    if not is_from(place, 0, len(numbers) - 1) or value not in clue.alphabet.numbered(numbers[place]):
        return False
    bit = clue.alphabet.cell(value).number
    return are_exactly(StateSets(clue), marked_numbers(numbers, place, bit), sets)


def shows_exact(striker, clue, thing):
    """Whether any value shows that a striker is sound and complete."""
    same_values(striker, clue)
    if not isinstance(thing, tuple) or len(thing) != 2:
        return False
    sound, complete = thing
    if isinstance(striker, Book):
        is_sound = shows_sound(striker, clue, sound)
    else:
        is_sound = sound is None
    return is_sound and shows_complete(striker, clue, complete)


def is_line_of_numbers(values, thing):
    """Whether any value is a tuple of the numbers of the cells of a line."""
    if not isinstance(thing, tuple) or not is_row(thing, 1, Line.LONGEST):
        return False
    return all([is_from(number, 1, values.full.number) for number in thing])


def are_exactly(sets, numbers, thing):
    """Whether any value is the tuple of the sets along the cells with these numbers, and no last state is told."""
    if not isinstance(thing, tuple) or len(thing) != len(numbers) + 1:
        return False
    if not all([is_index_row(row, len(sets.steps)) for row in thing]):
        return False
    return thing == sets.sets_told(numbers) and sets.along(numbers)[-1] & sets.told_ones == 0
