"""Whether strikers leave nothing that no right word has."""

from linestrikes.books import Book
from linestrikes.checks import refuse_wrong_most, same_values
from linestrikes.lines import line_of
from linestrikes.marks import bits_of, marked_numbers
from linestrikes.sound import Judgement, Shown, judge_sound
from linestrikes.stands import Stands
from linestrikes.states import StateSets
from linestrikes.tours import tour


class Complete(Judgement):
    """All stands that are come to."""

    def __init__(self, table):
        Judgement.__init__(self, "complete", (table,))
        self.table = table


class Incomplete(Shown):
    """The least stable line with a value that no right word within it has there, this value, and what bars it."""

    def __init__(self, line, place, value, sets):
        numbers = tuple([cell.number for cell in line])
        Shown.__init__(self, "incomplete", (numbers, place, value, sets))
        self.line = line
        self.place = place
        self.value = value
        self.sets = sets


class Exact(Judgement):
    """That a striker is sound, or None for a best one, and that it is complete."""

    def __init__(self, sound, complete):
        Judgement.__init__(self, "exact", (None if sound is None else sound.paper(), complete.paper()))
        self.sound = sound
        self.complete = complete


def judge_complete(striker, clue, *, most=4000):
    """A Complete or an Incomplete."""
    same_values(striker, clue)
    refuse_wrong_most(most)
    stands = Stands(striker, clue)
    found, numbers = tour(stands, most)
    if numbers is not None:
        return incomplete(clue, numbers)
    return Complete(tuple(sorted([stands.told_stand(stand) for stand in found])))


def judge_exact(striker, clue, *, most=4000):
    """An Exact, or the Unsound or the Incomplete that shows the contrary."""
    same_values(striker, clue)
    refuse_wrong_most(most)
    sound = judge_sound(striker, clue) if isinstance(striker, Book) else None
    if sound is not None and not sound:
        return sound
    complete = judge_complete(striker, clue, most=most)
    return Exact(sound, complete) if complete else complete


def incomplete(clue, numbers):
    """The Incomplete with the line with cells of these numbers."""
    sets = StateSets(clue)
    left = sets.left_numbers(numbers)
    places = [at for at, number in enumerate(numbers) if number & ~left[at]]
    place = places[0]
    bit = bits_of(numbers[place] & ~left[place])[0]
    value = clue.alphabet.letters[bit.bit_length() - 1]
    barred = sets.sets_told(marked_numbers(numbers, place, bit))
    return Incomplete(line_of(clue.alphabet, numbers), place, value, barred)
