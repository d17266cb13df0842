"""Sets of states of a clue, each told by the sum of 2 ** state over its states."""

from linestrikes.checks import is_index_row
from linestrikes.marks import bits_of


class StateSets:
    """Goes from one set of the states of a clue to the next one."""

    def __init__(self, clue):
        self.steps = clue.steps
        self.every = (1 << len(clue.told)) - 1
        self.told_ones = set_of([state for state, is_told in enumerate(clue.told) if is_told])
        # Lost states are all alike, so that a least machine has one at most, and it leads to itself alone.
        self.lost_ones = set_of([state for state, row in enumerate(clue.steps)
                                 if not clue.told[state] and all([after == state for after in row])])
        self.by_cell = {}
        self.stepped = {}

    def after_each(self, number):
        """For each state the set of the states to which the values of the cell with this number lead."""
        if number not in self.by_cell:
            self.by_cell[number] = [set_of([after for k, after in enumerate(row) if (number >> k) & 1])
                                    for row in self.steps]
        return self.by_cell[number]

    def behind(self, some, number):
        """The set of the states to which those of a set lead by the values of a cell."""
        key = (some, number)
        if key not in self.stepped:
            after = self.after_each(number)
            found = 0
            for state in states_of(some):
                found = found | after[state]
            self.stepped[key] = found
        return self.stepped[key]

    def ahead(self, some, number):
        """The set of the states from which a value of a cell leads to one of a set."""
        return set_of([state for state, after in enumerate(self.after_each(number)) if after & some])

    def along(self, numbers):
        """The list of the sets that come from the state 0 by the values of the cells with these numbers."""
        sets = [1]
        for number in numbers:
            sets.append(self.behind(sets[-1], number))
        return sets

    def left_numbers(self, numbers):
        """The numbers of the cells with just the values that right words have there; 0 if there are none."""
        return self.left_between(1, numbers, self.told_ones)

    def factor_numbers(self, numbers, is_start, is_end):
        """The same of factors: these are the first cells, the last cells, or not."""
        start = 1 if is_start else self.every
        return self.left_between(start, numbers, self.told_ones if is_end else self.every & ~self.lost_ones)

    def left_between(self, start, numbers, end):
        """The same of words that are read from a state of one set to a state of another one."""
        living = [end]
        for number in numbers[::-1]:
            living.append(self.ahead(living[-1], number))
        some = start
        left = []
        for number, after in zip(numbers, living[-2::-1]):
            left.append(sum([bit for bit in bits_of(number) if self.behind(some, bit) & after]))
            some = self.behind(some, number)
        return left

    def sets_told(self, numbers):
        """The tuple of the ascending tuples of states along the cells with these numbers."""
        return tuple([states_of(some) for some in self.along(numbers)])

    def is_barring(self, numbers, sets):
        """Whether any value is a tuple of such tuples, perhaps with more states, and without a told one at the end."""
        if not isinstance(sets, tuple) or len(sets) != len(numbers) + 1:
            return False
        if not all([is_index_row(row, len(self.steps)) for row in sets]):
            return False
        some = set_of(sets[0])
        if not some & 1:
            return False
        for number, row in zip(numbers, sets[1:]):
            wider = set_of(row)
            if self.behind(some, number) & ~wider:
                return False
            some = wider
        return some & self.told_ones == 0


def set_of(states):
    """The set with these states."""
    found = 0
    for state in states:
        found = found | (1 << state)
    return found


def states_of(some):
    """The ascending tuple of the states of a set."""
    return tuple([state for state in range(some.bit_length()) if (some >> state) & 1])
