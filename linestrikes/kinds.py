"""The kinds of clues that are told by a few arguments."""

from linestrikes.checks import is_from, wrong_letter
from linestrikes.clues import Clue, Marked
from linestrikes.errors import BadClue, BadNumber, BadValues
from linestrikes.values import Values, cell_from

MOST_RUNS = 8
LONGEST_RUN = 30
MOST_MARKS = 60
GREATEST_MODULUS = 60
MOST_LISTED = 20
LONGEST_LISTED = 30


class Runs(Marked, Clue):
    """Words whose runs of the mark have just these lengths."""

    def __init__(self, values, mark, *lengths):
        refuse_no_values(values)
        Marked.__init__(self, values, mark)
        if len(lengths) > MOST_RUNS:
            raise BadClue("lengths")
        for at, length in enumerate(lengths):
            if not is_from(length, 1, LONGEST_RUN):
                raise BadClue(at)
        self.lengths = lengths
        steps, told = runs_machine(values, mark, lengths)
        Clue.__init__(self, values, steps, told)


class Few(Marked, Clue):
    """Words with at most so many marks."""

    def __init__(self, values, mark, most):
        refuse_no_values(values)
        Marked.__init__(self, values, mark)
        if not is_from(most, 0, MOST_MARKS):
            raise BadNumber("most")
        self.most = most
        # The state behind k marks is k, and most + 1 if there were more of them.
        steps = [marked_row(values, mark, min(many + 1, most + 1), many) for many in range(most + 2)]
        Clue.__init__(self, values, steps, [many <= most for many in range(most + 2)])


class Modulo(Marked, Clue):
    """Words whose number of marks leaves this rest."""

    def __init__(self, values, mark, modulus, rest=0):
        refuse_no_values(values)
        Marked.__init__(self, values, mark)
        if not is_from(modulus, 1, GREATEST_MODULUS):
            raise BadNumber("modulus")
        if not is_from(rest, 0, modulus - 1):
            raise BadNumber("rest")
        self.modulus = modulus
        self.rest = rest
        steps = [marked_row(values, mark, (many + 1) % modulus, many) for many in range(modulus)]
        Clue.__init__(self, values, steps, [many == rest for many in range(modulus)])


class Neighbours(Clue):
    """Words in which each two letters side by side are one of the pairs."""

    def __init__(self, values, *pairs):
        refuse_no_values(values)
        for at, pair in enumerate(pairs):
            if wrong_letter(values.letters, pair) is not None or len(pair) != 2:
                raise BadClue(at)
        self.pairs = pairs
        # State 0 is the start, the state behind the last letter k is k + 1, and the last state is behind a wrong pair.
        wrong = len(values) + 1
        steps = [list(range(1, wrong))]
        for last in values.letters:
            steps.append([k + 1 if last + letter in pairs else wrong for k, letter in enumerate(values.letters)])
        steps.append([wrong] * len(values))
        Clue.__init__(self, values, steps, [True] * wrong + [False])


class Ends(Clue):
    """Words whose first letter is in one cell, and whose last letter in another one."""

    def __init__(self, values, opening, closing):
        refuse_no_values(values)
        first_cell = cell_from(values, opening)
        if first_cell is None:
            raise BadClue("opening")
        last_cell = cell_from(values, closing)
        if last_cell is None:
            raise BadClue("closing")
        self.opening = first_cell
        self.closing = last_cell
        # State 0 is the start; 1 and 2 are behind a right first letter, 1 behind a right last one; 3 is the rest.
        behind = [1 if letter in last_cell else 2 for letter in values.letters]
        start = [state if letter in first_cell else 3 for state, letter in zip(behind, values.letters)]
        Clue.__init__(self, values, [start, behind, behind, [3] * len(values)], [False, True, False, False])


class Listed(Clue):
    """Just these words."""

    def __init__(self, values, *words):
        refuse_no_values(values)
        if len(words) > MOST_LISTED:
            raise BadClue("words")
        for at, word in enumerate(words):
            if wrong_letter(values.letters, word) is not None or len(word) > LONGEST_LISTED:
                raise BadClue(at)
        self.listed = words
        steps, told = listed_machine(values, words)
        Clue.__init__(self, values, steps, told)


class Every(Clue):
    """All words."""

    def __init__(self, values):
        refuse_no_values(values)
        Clue.__init__(self, values, [[0] * len(values)], [True])


class Never(Clue):
    """No word."""

    def __init__(self, values):
        refuse_no_values(values)
        Clue.__init__(self, values, [[0] * len(values)], [False])


def refuse_no_values(values):
    """Raises BadValues for any value that is no Values."""
    if not isinstance(values, Values):
        raise BadValues(values)


def marked_row(values, mark, by_mark, by_other):
    """The next states: one by the mark, another one by all other values."""
    return [by_mark if letter == mark else by_other for letter in values.letters]


def runs_machine(values, mark, lengths):
    """The steps and the told states of a machine for words with just these runs."""
    wrong = sum(lengths) + len(lengths) + 1
    steps = []
    for length in lengths:
        # Ahead of the run any other values may stand, but within it none.
        ahead = len(steps)
        steps.append(marked_row(values, mark, ahead + 1, ahead))
        for many in range(1, length):
            steps.append(marked_row(values, mark, ahead + many + 1, wrong))
        steps.append(marked_row(values, mark, wrong, ahead + length + 1))
    steps.append(marked_row(values, mark, wrong, wrong - 1))
    steps.append(marked_row(values, mark, wrong, wrong))
    # Behind the last run the word may end at once; without runs there is no such state.
    told = [state == wrong - 1 or (state == wrong - 2 and len(lengths) > 0) for state in range(wrong + 1)]
    return steps, told


def listed_machine(values, words):
    """The steps and the told states of a machine with a state for each beginning of a word, and a last one."""
    beginnings = [""]
    numbers = {"": 0}
    for word in words:
        for many in range(1, len(word) + 1):
            if word[:many] not in numbers:
                numbers[word[:many]] = len(beginnings)
                beginnings.append(word[:many])
    wrong = len(beginnings)
    steps = [[numbers.get(some + letter, wrong) for letter in values.letters] for some in beginnings]
    steps.append([wrong] * len(values))
    return steps, [some in words for some in beginnings] + [False]
