"""The kinds of clues that are told by a few arguments."""

from linestrikes.checks import is_from, wrong_letter
from linestrikes.clues import Clue, Marked
from linestrikes.errors import BadClue, BadNumber, BadValues, TooMany
from linestrikes.machines import least_machine, numbered_machine
from linestrikes.values import Values, cell_from

MOST_RUNS = 8
LONGEST_RUN = 30
MOST_MARKS = 60
GREATEST_MODULUS = 60
MOST_LISTED = 20
LONGEST_LISTED = 30


class Runs(Marked, Clue):
    """Words whose runs of the mark have just these lengths."""

    def __init__(self, values, mark, *lengths):
        refuse_no_values(values)
        Marked.__init__(self, values, mark)
        if len(lengths) > MOST_RUNS:
            raise BadClue("lengths")
        for at, length in enumerate(lengths):
            if not is_from(length, 1, LONGEST_RUN):
                raise BadClue(at)
        self.lengths = lengths
        steps, told = runs_machine(values, mark, lengths)
        Clue.__init__(self, values, steps, told)


class Few(Marked, Clue):
    """Words with at most so many marks."""

    def __init__(self, values, mark, most):
        refuse_no_values(values)
        Marked.__init__(self, values, mark)
        if not is_from(most, 0, MOST_MARKS):
            raise BadNumber("most")
        self.most = most
        # The state behind k marks is k, and most + 1 if there were more of them. No two states let as many more marks.
        steps = [marked_row(values, mark, min(many + 1, most + 1), many) for many in range(most + 2)]
        Clue.__init__(self, values, tuple(steps), (True,) * (most + 1) + (False,))


class Modulo(Marked, Clue):
    """Words whose number of marks leaves this rest."""

    def __init__(self, values, mark, modulus, rest=0):
        refuse_no_values(values)
        Marked.__init__(self, values, mark)
        if not is_from(modulus, 1, GREATEST_MODULUS):
            raise BadNumber("modulus")
        if not is_from(rest, 0, modulus - 1):
            raise BadNumber("rest")
        self.modulus = modulus
        self.rest = rest
        # The state behind k marks is the rest of k. No two states lack as many marks.
        steps = [marked_row(values, mark, many + 1, many) for many in range(modulus - 1)]
        steps.append(marked_row(values, mark, 0, modulus - 1))
        Clue.__init__(self, values, tuple(steps), tuple([many == rest for many in range(modulus)]))


class Neighbours(Clue):
    """Words in which each two letters side by side are one of the pairs."""

    def __init__(self, values, *pairs):
        refuse_no_values(values)
        for at, pair in enumerate(pairs):
            if wrong_letter(values.letters, pair) is not None or len(pair) != 2:
                raise BadClue(at)
        self.pairs = pairs
        # State 0 is the start, the state behind the last letter k is k + 1, and the last state is behind a wrong pair.
        wrong = len(values) + 1
        steps = [list(range(1, wrong))]
        for last in values.letters:
            steps.append([k + 1 if last + letter in pairs else wrong for k, letter in enumerate(values.letters)])
        steps.append([wrong] * len(values))
        least_steps, least_told = least_machine(steps, [True] * wrong + [False], Clue.MOST)
        Clue.__init__(self, values, least_steps, least_told)


class Ends(Clue):
    """Words whose first letter is in one cell, and whose last letter in another one."""

    def __init__(self, values, opening, closing):
        refuse_no_values(values)
        first_cell = cell_from(values, opening)
        if first_cell is None:
            raise BadClue("opening")
        last_cell = cell_from(values, closing)
        if last_cell is None:
            raise BadClue("closing")
        self.opening = first_cell
        self.closing = last_cell
        # State 0 is the start; 1 and 2 are behind a right first letter, 1 behind a right last one; 3 is the rest.
        behind = [1 if letter in last_cell else 2 for letter in values.letters]
        start = [state if letter in first_cell else 3 for state, letter in zip(behind, values.letters)]
        steps = [start, behind, behind, [3] * len(values)]
        least_steps, least_told = least_machine(steps, [False, True, False, False], Clue.MOST)
        Clue.__init__(self, values, least_steps, least_told)


class Listed(Clue):
    """Just these words."""

    def __init__(self, values, *words):
        refuse_no_values(values)
        if len(words) > MOST_LISTED:
            raise BadClue("words")
        for at, word in enumerate(words):
            if wrong_letter(values.letters, word) is not None or len(word) > LONGEST_LISTED:
                raise BadClue(at)
        self.listed = words
        steps, told = listed_machine(values, words)
        Clue.__init__(self, values, steps, told)


class Every(Clue):
    """All words."""

    def __init__(self, values):
        refuse_no_values(values)
        Clue.__init__(self, values, ((0,) * len(values),), (True,))


class Never(Clue):
    """No word."""

    def __init__(self, values):
        refuse_no_values(values)
        Clue.__init__(self, values, ((0,) * len(values),), (False,))


def refuse_no_values(values):
    """Raises BadValues for any value that is no Values."""
    if not isinstance(values, Values):
        raise BadValues(values)


def marked_row(values, mark, by_mark, by_other):
    """The next states: one by the mark, another one by all other values."""
    at = values.letters.index(mark)
    return (by_other,) * at + (by_mark,) + (by_other,) * (len(values.letters) - 1 - at)


def runs_machine(values, mark, lengths):
    """The steps and the told states of the least machine for words with just these runs.

    No two of its states are alike, as the shortest words from them to the only told state are of unlike lengths.
    """
    wrong = max(1, sum(lengths) + len(lengths))
    if wrong + 1 > Clue.MOST:
        raise TooMany("states", Clue.MOST)
    steps = []
    for at, length in enumerate(lengths):
        # Ahead of the run any other values may stand, within it none, and behind it one at least if a run follows.
        steps.append(marked_row(values, mark, len(steps) + 1, len(steps)))
        for _ in range(length - 1):
            steps.append(marked_row(values, mark, len(steps) + 1, wrong))
        if at < len(lengths) - 1:
            steps.append(marked_row(values, mark, wrong, len(steps) + 1))
    steps.append(marked_row(values, mark, wrong, wrong - 1))
    steps.append(marked_row(values, mark, wrong, wrong))
    return numbered_machine(steps, [state == wrong - 1 for state in range(wrong + 1)], 0)


def listed_machine(values, words):
    """The steps and the told states of the least machine for just these words.

    Each state is told by its row, whether it is told and its next states, and the words are built from behind: so no
    two states are alike. The state 0 is the one behind all wrong beginnings until all are numbered anew.
    """
    ends = {word: True for word in words}
    beginnings = {"": True}
    for word in words:
        for many in range(1, len(word) + 1):
            beginnings[word[:many]] = True
    rows = {(False,) + (0,) * len(values): 0}
    states = {}
    for some in list(beginnings)[::-1]:
        row = (some in ends, *[states.get(some + letter, 0) for letter in values.letters])
        states[some] = rows.setdefault(row, len(rows))
        if len(rows) > Clue.MOST:
            raise TooMany("states", Clue.MOST)
    steps = [row[1:] for row in rows]
    return numbered_machine(steps, [row[0] for row in rows], states[""])
