"""Stands: what is kept of a line that is walked through cell by cell. Here tails and sets of states are numbers."""

from linestrikes.checks import is_from, is_index_row
from linestrikes.marks import bits_of
from linestrikes.states import StateSets, set_of, states_of
from linestrikes.tails import NO_CELLS, Tails, has_all_cells, numbers_of_tail, tail_of

# The truths of a double stand, which is told by the number of its tail times TRUTHS, and the sum of those that hold.
MAY_END = 4
OTHER_MAY_END = 2
IS_STRUCK = 1
TRUTHS = 8


class Stands:
    """The stands of a striker and a clue."""

    def __init__(self, striker, clue):
        self.windows = striker.walked()
        self.reach = reach_of(striker.width)
        self.tails = Tails(self.reach)
        self.full_number = clue.alphabet.full.number
        self.sets = StateSets(clue)
        self.ways = {}
        self.first_stand = (NO_CELLS, False, 1, False)

    def core_of(self, stand):
        """What tells which stands come behind a stand."""
        tail, _, some, is_marked = stand
        return tail, some, is_marked

    def onward(self, core):
        """The pairs of the number of a cell that strikes nothing and a stand that comes behind with it, ascending."""
        tail, some, is_marked = core
        found = []
        for number, next_tail, may_end in self.ways_behind(tail):
            found.append((number, (next_tail, may_end, self.sets.behind(some, number), is_marked)))
            if not is_marked:
                for bit in bits_of(number):
                    found.append((number, (next_tail, may_end, self.sets.behind(some, bit), True)))
        return found

    def ways_behind(self, tail):
        """For each cell that strikes nothing behind a tail: its number, the next stand's tail and its may_end."""
        if tail not in self.ways:
            struck, struck_at_end = self.windows.behind(tail)
            room = self.tails.room_behind(tail)
            self.ways[tail] = [(number, room + self.tails.digit_of(number), not struck_at_end[number])
                               for number in range(1, self.full_number + 1) if not struck[number]]
        return self.ways[tail]

    def fails(self, stand):
        """Whether a stand shows that the striker is not complete."""
        _, may_end, some, is_marked = stand
        return is_marked and may_end and some & self.sets.told_ones == 0

    def told_stand(self, stand):
        """The stand as the document tells it."""
        tail, may_end, some, is_marked = stand
        return has_all_cells(tail), numbers_of_tail(tail), may_end, states_of(some), is_marked

    def stand_from(self, thing):
        """The stand that any value of the form of one tells; None for any other value."""
        if not isinstance(thing, tuple) or len(thing) != 5:
            return None
        is_start, cells, may_end, states, is_marked = thing
        if not are_bools([is_start, may_end, is_marked]) or not is_index_row(states, len(self.sets.steps)):
            return None
        if not are_cells_kept(is_start, cells, self.reach, self.full_number):
            return None
        return tail_of(is_start, cells), may_end, set_of(states), is_marked


class DoubleStands:
    """The double stands of two strikers, told by their windows. Each is told by a number.

    Of each striker those parts alone strike that a number tells. They are the parts of what its windows tell, so -1
    stands for all of them.
    """

    def __init__(self, one, one_parts, other, other_parts, reach, full_number):
        self.one = one
        self.one_parts = one_parts
        self.other = other
        self.other_parts = other_parts
        self.reach = reach
        self.tails = Tails(reach)
        self.full_number = full_number
        self.first_stand = NO_CELLS * TRUTHS

    def turned(self):
        """The double stands of the other one and of this one."""
        return DoubleStands(self.other, self.other_parts, self.one, self.one_parts, self.reach, self.full_number)

    def core_of(self, stand):
        """What tells which double stands come behind one: its tail, and whether it is struck."""
        return stand & ~(MAY_END + OTHER_MAY_END)

    def onward(self, core):
        """The pairs of the number of a cell that strikes nothing for one and the double stand that comes behind."""
        tail = core // TRUTHS
        was_struck = core & IS_STRUCK
        struck, struck_at_end = self.one.behind(tail)
        other_struck, other_struck_at_end = self.other.behind(tail)
        room = self.tails.room_behind(tail)
        found = []
        for number in range(1, self.full_number + 1):
            if not struck[number] & self.one_parts:
                stand = (room + self.tails.digit_of(number)) * TRUTHS
                if not struck_at_end[number] & self.one_parts:
                    stand = stand + MAY_END
                if was_struck or other_struck[number] & self.other_parts:
                    stand = stand + IS_STRUCK
                elif not other_struck_at_end[number] & self.other_parts:
                    stand = stand + OTHER_MAY_END
                found.append((number, stand))
        return found

    def fails(self, stand):
        """Whether a double stand shows that one is not stronger."""
        return stand & (MAY_END + OTHER_MAY_END) == MAY_END

    def told_stands(self, stands):
        """The tuple of the double stands as the document tells them, ascending."""
        tails = {stand // TRUTHS: True for stand in stands}
        told = {tail: (has_all_cells(tail), numbers_of_tail(tail)) for tail in tails}
        found = []
        for stand in stands:
            is_start, cells = told[stand // TRUTHS]
            truths = [bool(stand & truth) for truth in (MAY_END, OTHER_MAY_END, IS_STRUCK)]
            found.append((is_start, cells, *truths))
        return tuple(sorted(found))

    def stand_from(self, thing):
        """The double stand that any value of the form of one tells; None for any other value."""
        if not isinstance(thing, tuple) or len(thing) != 5:
            return None
        is_start, cells, may_end, other_may_end, is_struck = thing
        if not are_bools([is_start, may_end, other_may_end, is_struck]):
            return None
        if not are_cells_kept(is_start, cells, self.reach, self.full_number):
            return None
        truths = ((MAY_END, may_end), (OTHER_MAY_END, other_may_end), (IS_STRUCK, is_struck))
        return tail_of(is_start, cells) * TRUTHS + sum([truth for truth, holds in truths if holds])


def reach_of(width):
    """How many cells ahead of a cell a striker of this width looks at."""
    return max(0, width - 1)


def are_bools(things):
    """Whether the items, any values, are bools."""
    return all([isinstance(thing, bool) for thing in things])


def are_cells_kept(is_start, cells, reach, full_number):
    """Whether any value tells the cells of a tail: at most as many as the reach, all of these if some are left out."""
    if not isinstance(cells, tuple) or len(cells) > reach or (not is_start and len(cells) < reach):
        return False
    return all([is_from(number, 1, full_number) for number in cells])
