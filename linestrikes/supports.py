"""What the right words within a line leave of it."""

from linestrikes.checks import is_from, same_values
from linestrikes.errors import BadCell, BadNumber
from linestrikes.lines import line_of
from linestrikes.marks import marked_numbers, marks_of
from linestrikes.spelling import each_word, word_total
from linestrikes.states import StateSets
from linestrikes.values import numbers_of


class Left:
    """What right words leave of a line, with a word for each value that is left, and sets for each other one."""

    def __init__(self, line, shown, barred):
        self.line = line
        self.shown = shown
        self.barred = barred

    def __bool__(self):
        return self.line is not None


def count_words(clue, line):
    """The number of right words that fit a line."""
    same_values(clue, line)
    return word_total(clue.steps, clue.told, numbers_of(line))


def right_words(clue, line):
    """The right words that fit a line, in order."""
    same_values(clue, line)
    letters = clue.alphabet.letters
    numbers = numbers_of(line)
    for word in each_word(letters, clue.steps, clue.told, numbers):
        yield word


def left_by(clue, line):
    """The new line of the values that right words that fit a line have; None if there is no such word."""
    same_values(clue, line)
    left = StateSets(clue).left_numbers(numbers_of(line))
    return None if 0 in left else line_of(line.alphabet, left)


def barring(clue, line, place=None, value=None):
    """The sets that show that no right word fits a line, or none with this value there; None if there is one."""
    same_values(clue, line)
    numbers = numbers_of(line)
    if place is not None or value is not None:
        if not is_from(place, 0, len(numbers) - 1):
            raise BadNumber("place")
        if value not in line[place]:
            raise BadCell(value)
        numbers = marked_numbers(numbers, place, line.alphabet.cell(value).number)
    sets = StateSets(clue)
    if sets.along(numbers)[-1] & sets.told_ones:
        return None
    return sets.sets_told(numbers)


def judged_left(clue, line):
    """What right words leave of a line, with all that shows it."""
    same_values(clue, line)
    sets = StateSets(clue)
    numbers = numbers_of(line)
    left = sets.left_numbers(numbers)
    if 0 in left:
        return Left(None, (), (sets.sets_told(numbers),))
    struck = [number & ~kept for number, kept in zip(numbers, left)]
    barred = [sets.sets_told(marked_numbers(numbers, place, bit)) for place, bit in marks_of(struck)]
    return Left(line_of(line.alphabet, left), tuple(shown_words(clue, left)), tuple(barred))


def shown_words(clue, left):
    """For each value of each cell of what is left a right word that has it there."""
    heads = heads_along(clue, left)
    tails = tails_along(clue, left)
    words = []
    for place, bit in marks_of(left):
        k = bit.bit_length() - 1
        states = [state for state in heads[place] if clue.steps[state][k] in tails[place + 1]]
        tail = tails[place + 1][clue.steps[states[0]][k]]
        words.append(heads[place][states[0]] + clue.alphabet.letters[k] + tail)
    return words


def heads_along(clue, numbers):
    """For each place a dict with a word that leads there from the state 0, for each state behind it."""
    rows = [{0: ""}]
    for number in numbers:
        ahead = rows[-1]
        row = {}
        # The dict that grows is walked for the next cell, so what is walked here is a list of its own.
        for state in list(ahead):
            for letter, after in letters_from(clue, state, number):
                row.setdefault(after, ahead[state] + letter)
        rows.append(row)
    return rows


def tails_along(clue, numbers):
    """For each place a dict with a word that leads from there to a told state, for each state that has one."""
    rows = [{state: "" for state, is_told in enumerate(clue.told) if is_told}]
    for number in numbers[::-1]:
        behind = rows[-1]
        row = {}
        for state in range(len(clue.told)):
            for letter, after in letters_from(clue, state, number):
                if after in behind:
                    row.setdefault(state, letter + behind[after])
        rows.append(row)
    return rows[::-1]


def letters_from(clue, state, number):
    """The pairs of a value of a cell and the state to which it leads from a state."""
    row = clue.steps[state]
    return [(letter, row[k]) for k, letter in enumerate(clue.alphabet.letters) if (number >> k) & 1]
