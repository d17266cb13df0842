"""Guesses: a value is put in the place of a cell, and the striker strikes."""

from linestrikes.checks import refuse_wrong_most, same_values
from linestrikes.errors import TooMany
from linestrikes.lines import line_of
from linestrikes.marks import bits_of, marked_numbers, marks_of
from linestrikes.values import numbers_of


class Search:
    """A search for the words whose sure lines are stable, in the line as it was when the search was made."""

    def __init__(self, striker, line):
        same_values(striker, line)
        self.striker = striker
        self.start = numbers_of(line)
        self.clashes = 0

    @property
    def taken_back(self):
        """How many guesses have clashed so far."""
        return self.clashes

    def words(self, *, most=4000):
        """The words that are found, in order, each made when it is asked for."""
        refuse_wrong_most(most)
        letters = self.striker.alphabet.letters
        waiting = [self.start]
        # The line itself, which is struck first, is no guess.
        guesses = -1
        while waiting:
            if guesses == most:
                raise TooMany("guesses", most)
            guesses += 1
            left = numbers_left(self.striker, waiting.pop())
            if left is None:
                if guesses > 0:
                    self.clashes += 1
            elif any([is_open(number) for number in left]):
                waiting.extend(guesses_of(left)[::-1])
            else:
                yield "".join([letters[number.bit_length() - 1] for number in left])


def probed(striker, line):
    """What is left of a line once no guess clashes, None if the striker clashes on the way."""
    same_values(striker, line)
    before = None
    left = numbers_left(striker, numbers_of(line))
    while left is not None and left != before:
        before = left
        left = without_clashing(striker, left)
    return None if left is None else line_of(line.alphabet, left)


def without_clashing(striker, numbers):
    """What is left behind one guess of each value, of those in turn that still are values of open cells."""
    left = numbers
    for place, bit in marks_of(numbers):
        if left is not None and left[place] & bit and is_open(left[place]):
            if numbers_left(striker, marked_numbers(left, place, bit)) is None:
                left = numbers_left(striker, marked_numbers(left, place, left[place] & ~bit))
    return left


def numbers_left(striker, numbers):
    """The numbers of what a striker leaves of a line, None if it clashes."""
    _, left, clash = striker.followed(numbers)
    return None if clash is not None else left


def is_open(number):
    """Whether the cell with this number has more than one value."""
    return number & (number - 1) != 0


def guesses_of(numbers):
    """The lines with each value of the first open cell alone, in order."""
    places = [place for place, number in enumerate(numbers) if is_open(number)]
    return [marked_numbers(numbers, places[0], bit) for bit in bits_of(numbers[places[0]])]
