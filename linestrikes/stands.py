"""Stands: what is kept of a line that is walked through cell by cell. Here a set of states is told by a number."""

from linestrikes.checks import is_from
from linestrikes.marks import bits_of, cells_within
from linestrikes.states import StateSets, is_state_row, set_of, states_of
from linestrikes.windows import Windows


class Stands:
    """The stands of a striker and a clue."""

    def __init__(self, striker, clue):
        self.windows = Windows(striker)
        self.reach = reach_of(striker.width)
        self.full_number = clue.alphabet.full.number
        self.sets = StateSets(clue)
        self.ways = {}
        self.first_stand = (True, (), False, 1, False)

    def onward(self, stand):
        """The pairs of the number of a cell that strikes nothing and a stand that comes behind with it."""
        is_start, tail, _, some, is_marked = stand
        found = []
        for number, next_start, next_tail, may_end in self.ways_behind(is_start, tail):
            after = self.sets.behind(some, number)
            found.append((number, (next_start, next_tail, may_end, after, is_marked)))
            if not is_marked:
                for bit in bits_of(number):
                    after = self.sets.behind(some, bit)
                    found.append((number, (next_start, next_tail, may_end, after, True)))
        return found

    def ways_behind(self, is_start, tail):
        """For each cell that strikes nothing behind a tail: its number, the next stand's start and tail and may_end."""
        key = (is_start, tail)
        if key not in self.ways:
            found = []
            for number in cells_within(self.full_number):
                window = (*tail, number)
                struck, struck_at_end = self.windows.look(window, is_start)
                if not struck:
                    next_start, next_tail = kept_of(is_start, window, self.reach)
                    found.append((number, next_start, next_tail, not struck_at_end))
            self.ways[key] = found
        return self.ways[key]

    def fails(self, stand):
        """Whether a stand shows that the striker is not complete."""
        _, _, may_end, some, is_marked = stand
        return is_marked and may_end and some & self.sets.told_ones == 0

    def told_stand(self, stand):
        """The stand as the document tells it."""
        is_start, tail, may_end, some, is_marked = stand
        return is_start, tail, may_end, states_of(some), is_marked

    def stand_from(self, thing):
        """The stand that any value of the form of one tells; None for any other value."""
        if not isinstance(thing, tuple) or len(thing) != 5:
            return None
        is_start, tail, may_end, states, is_marked = thing
        if not are_bools([is_start, may_end, is_marked]) or not is_state_row(states, len(self.sets.steps)):
            return None
        if not is_tail(is_start, tail, self.reach, self.full_number):
            return None
        return is_start, tail, may_end, set_of(states), is_marked


class DoubleStands:
    """The double stands of two strikers. Of each of them those parts alone strike that a number tells.

    The parts are those of what struck_behind tells, so -1 stands for all of them.
    """

    def __init__(self, one, one_parts, other, other_parts, reach):
        self.one = one
        self.one_parts = one_parts
        self.other = other
        self.other_parts = other_parts
        self.reach = reach
        self.full_number = one.striker.alphabet.full.number
        self.ways = {}
        self.first_stand = (True, (), False, False, False)

    def onward(self, stand):
        """The pairs of the number of a cell that strikes nothing for one and the double stand that comes behind."""
        is_start, tail, _, _, was_struck = stand
        found = []
        for number, next_start, next_tail, may_end, strikes_now, strikes_at_end in self.ways_behind(is_start, tail):
            is_struck = was_struck or strikes_now
            other_may_end = not is_struck and not strikes_at_end
            found.append((number, (next_start, next_tail, may_end, other_may_end, is_struck)))
        return found

    def ways_behind(self, is_start, tail):
        """As of Stands, each with whether other strikes there, and whether it strikes if the line ends."""
        key = (is_start, tail)
        if key not in self.ways:
            found = []
            for number in cells_within(self.full_number):
                window = (*tail, number)
                struck, struck_at_end = self.one.look(window, is_start)
                if struck & self.one_parts == 0:
                    next_start, next_tail = kept_of(is_start, window, self.reach)
                    may_end = struck_at_end & self.one_parts == 0
                    theirs, theirs_at_end = self.other.look(window, is_start)
                    found.append((number, next_start, next_tail, may_end, theirs & self.other_parts != 0,
                                  theirs_at_end & self.other_parts != 0))
            self.ways[key] = found
        return self.ways[key]

    def fails(self, stand):
        """Whether a double stand shows that one is not stronger."""
        _, _, may_end, other_may_end, _ = stand
        return may_end and not other_may_end


def reach_of(width):
    """How many cells ahead of a cell a striker of this width looks at."""
    return max(0, width - 1)


def kept_of(is_start, window, reach):
    """What the next stand keeps of the last cells: whether these are all cells, and their numbers."""
    if len(window) > reach:
        return False, window[len(window) - reach:]
    return is_start, window


def are_bools(things):
    """Whether the items, any values, are bools."""
    return all([isinstance(thing, bool) for thing in things])


def is_tail(is_start, tail, reach, full):
    """Whether any value is a tail of a stand: numbers of cells, just as many as the reach if they are not all cells."""
    if not isinstance(tail, tuple) or len(tail) > reach or (not is_start and len(tail) < reach):
        return False
    return all([is_from(number, 1, full) for number in tail])
