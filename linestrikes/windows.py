"""What strikes in the windows of a line that is walked through cell by cell."""

from linestrikes.marks import bits_of
from linestrikes.tails import BITS_OF_DIGIT, DIGIT, has_all_cells, length_of, numbers_of_tail


class Windows:
    """The windows of a striker. Each tail is looked at once."""

    def __init__(self):
        self.looked = {}

    def behind(self, tail):
        """What strikes in the windows that end with the next cell behind a tail, for the number of each such cell.

        A pair of lists: what strikes in any case, and what strikes if the line ends there; 0 if nothing does. What is
        at the number 0, which no cell of a line has, is not told. The tail has all cells that a window may have.
        """
        if tail not in self.looked:
            self.looked[tail] = self.struck_behind(tail)
        return self.looked[tail]

    def struck_behind(self, tail):
        """What is told of a tail that is looked at for the first time."""
        raise NotImplementedError("each kind of striker has its own windows")


class BookWindows(Windows):
    """The windows of some rules. What strikes is told by the sum of 2 ** number over the rules that do."""

    def __init__(self, rules, full_number):
        Windows.__init__(self)
        width = max([len(rule.wanted) for rule in rules], default=1)
        # For each place, counted from the last cell of the window, and each cell: the rules that may have it there.
        self.letting = [[sum_of_rules([lets_cell(rule, back, number) for rule in rules])
                         for number in range(full_number + 1)] for back in range(width)]
        self.inner = sum_of_rules([not rule.left for rule in rules])
        # The rules that may strike in windows that end with the first, second and so on cell of a line.
        self.at_start = [sum_of_rules([len(rule.wanted) == many or (len(rule.wanted) < many and not rule.left)
                                       for rule in rules]) for many in range(width + 1)]
        self.at_end = sum_of_rules([rule.right for rule in rules])
        self.anywhere = sum_of_rules([not rule.right for rule in rules])
        self.nothing = [0] * (full_number + 1)

    def struck_behind(self, tail):
        """What is told of a tail that is looked at for the first time."""
        many = length_of(tail) + 1
        if many < len(self.at_start) and has_all_cells(tail):
            some = self.at_start[many]
        else:
            some = self.inner
        cells = tail
        for letting in self.letting[1:many]:
            some = some & letting[cells & DIGIT]
            cells = cells >> BITS_OF_DIGIT
        struck = [some & letting for letting in self.letting[0]]
        if not self.at_end:
            return struck, self.nothing
        return [found & self.anywhere for found in struck], [found & self.at_end for found in struck]


class FactorWindows(Windows):
    """The windows of a best striker, told by the sets of states of its clue. What strikes is told by 1."""

    def __init__(self, sets, width, full_number):
        Windows.__init__(self)
        self.sets = sets
        self.width = width
        self.bits = [bits_of(number) for number in range(full_number + 1)]
        self.nothing = [0] * (full_number + 1)

    def struck_behind(self, tail):
        """What is told of a tail that is looked at for the first time."""
        many = length_of(tail) + 1
        is_start = has_all_cells(tail) and many <= self.width
        cells = numbers_of_tail(tail)[max(0, many - self.width):]
        some, marked = self.sets_behind(1 if is_start else self.sets.every, cells)
        ends = [self.ends_with(some, marked, number) for number in range(len(self.bits))]
        told = self.sets.told_ones
        struck_at_end = [int(any([end & told == 0 for end in row])) for row in ends]
        if many < self.width:
            return self.nothing, struck_at_end
        return [int(any([end & ~self.sets.lost_ones == 0 for end in row])) for row in ends], struck_at_end

    def sets_behind(self, start, numbers):
        """The set behind the first cells of a window, and the list of those with each mark there."""
        some = start
        marked = {}
        for number in numbers:
            longer = [self.sets.behind(other, number) for other in marked]
            marked = {other: True for other in [*longer, *[self.sets.behind(some, bit) for bit in self.bits[number]]]}
            some = self.sets.behind(some, number)
        return some, list(marked)

    def ends_with(self, some, marked, number):
        """The sets behind a window with this last cell, with each mark."""
        ends = [self.sets.behind(other, number) for other in marked]
        return [*ends, *[self.sets.behind(some, bit) for bit in self.bits[number]]]


def sum_of_rules(truths):
    """The sum of 2 ** number over the rules for which this is so."""
    return sum([1 << number for number, is_so in enumerate(truths) if is_so])


def lets_cell(rule, back, number):
    """Whether a rule may strike in a window that has a cell at a place, counted from its last cell."""
    at = len(rule.wanted) - 1 - back
    if at < 0:
        return True
    return number & ~rule.wanted[at] == 0 and (at != rule.at or number & rule.bit != 0)
