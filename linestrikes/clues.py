"""Clues, which tell for each word whether it is right."""

from linestrikes.checks import is_from, is_row, same_values, wrong_letter
from linestrikes.errors import BadClue, BadMachine, BadNumber, BadValues, BadWord
from linestrikes.machines import first_words, joined_machine, least_machine, leads_within, mirrored_machine
from linestrikes.spelling import each_word, word_total
from linestrikes.values import Values

LONGEST_WORD = 1000


class Clue:
    """The base of all clues. It is made with its least machine, whose rows are tuples."""

    MOST = 64

    def __init__(self, alphabet, steps, told):
        self.alphabet = alphabet
        self.steps = steps
        self.told = told

    def __len__(self):
        return len(self.told)

    def __call__(self, word):
        return self.told[self.state(word)]

    def __contains__(self, x):
        return wrong_letter(self.alphabet.letters, x) is None and self.told[self.state(x)]

    def __bool__(self):
        return True in self.told

    def __eq__(self, other):
        return (isinstance(other, Clue) and self.alphabet == other.alphabet and self.steps == other.steps
                and self.told == other.told)

    def __and__(self, other):
        return joined_clue(self, other, "&")

    def __or__(self, other):
        return joined_clue(self, other, "|")

    def __sub__(self, other):
        return joined_clue(self, other, "-")

    def __xor__(self, other):
        return joined_clue(self, other, "^")

    def __invert__(self):
        # With the other states told the same states are unlike.
        return Joined(self.alphabet, self.steps, tuple([not is_told for is_told in self.told]))

    def __neg__(self):
        steps, told = mirrored_machine(self.steps, self.told, Clue.MOST)
        return Joined(self.alphabet, steps, told)

    def state(self, word):
        """The state behind a word."""
        refuse_no_word(self.alphabet.letters, word)
        behind = 0
        for letter in word:
            behind = self.steps[behind][self.alphabet.letters.index(letter)]
        return behind

    def within(self, other):
        """Whether each right word is right for the other clue."""
        same_values(self, other)
        return leads_within((self.steps, self.told), (other.steps, other.told))

    def first(self):
        """The first right word, None if there is none."""
        if True not in self.told:
            return None
        # States are numbered as words first come to them, so the least told one has the first right word.
        firsts = first_words(self.alphabet.letters, self.steps)
        return firsts[self.told.index(True)]

    def count(self, length):
        """The number of right words of this length."""
        return word_total(self.steps, self.told, self.full_numbers(length))

    def words(self, length):
        """The right words of this length, in order."""
        numbers = self.full_numbers(length)
        for word in each_word(self.alphabet.letters, self.steps, self.told, numbers):
            yield word

    def full_numbers(self, length):
        """The numbers of so many full cells."""
        if not is_from(length, 0, LONGEST_WORD):
            raise BadNumber("length")
        return [self.alphabet.full.number] * length

    def renamed(self, names):
        """The clue with other letters."""
        return Joined(self.alphabet.renamed(names), self.steps, self.told)


class Joined(Clue):
    """A clue that comes of other ones."""


class Machine(Clue):
    """A clue that is told by a machine."""

    MOST = 12

    def __init__(self, values, steps, told):
        if not isinstance(values, Values):
            raise BadValues(values)
        if not are_steps(steps, len(values)):
            raise BadMachine("steps")
        if not is_row(told, len(steps), len(steps)) or not all([isinstance(is_told, bool) for is_told in told]):
            raise BadMachine("told")
        least_steps, least_told = least_machine(steps, told, Clue.MOST)
        Clue.__init__(self, values, least_steps, least_told)


class Marked:
    """The second base of the clues that look at one value, the mark."""

    def __init__(self, values, mark):
        if mark not in values:
            raise BadClue("mark")
        self.mark = mark

    def marks(self, word):
        """The number of marks in a word."""
        refuse_no_word(self.alphabet.letters, word)
        return word.count(self.mark)


def refuse_no_word(letters, word):
    """Raises BadWord for any value that is no word."""
    at = wrong_letter(letters, word)
    if at is not None:
        raise BadWord(at)


def are_steps(steps, many):
    """Whether any value is a row of rows of next states for so many values."""
    if not is_row(steps, 1, Machine.MOST):
        return False
    return all([is_row(row, many, many) and are_states(row, len(steps)) for row in steps])


def are_states(row, many):
    """Whether the items are states of a machine with so many."""
    return all([is_from(state, 0, many - 1) for state in row])


def joined_clue(one, other, sign):
    """The clue that a sign between two clues makes."""
    same_values(one, other)
    steps, told = joined_machine((one.steps, one.told), (other.steps, other.told), sign, Clue.MOST)
    return Joined(one.alphabet, steps, told)
