"""The best strikers, which strike whatever some sound rule of at most so many cells strikes."""

from linestrikes.checks import is_from, is_row
from linestrikes.errors import BadLine, BadNumber, Barred
from linestrikes.rules import Rule
from linestrikes.sound import is_sound_rule
from linestrikes.states import StateSets
from linestrikes.strikers import Striker
from linestrikes.values import cell_from, numbers_of
from linestrikes.windows import FactorWindows

MOST_FACTOR_CELLS = 30


class Best(Striker):
    """The best striker of a clue and a width. Its strikes are pairs of a place and a value."""

    def __init__(self, clue, width):
        if not is_from(width, 1, Rule.LONGEST):
            raise BadNumber("width")
        Striker.__init__(self, clue.alphabet, width)
        self.clue = clue
        self.sets = StateSets(clue)
        self.looked = {}

    def __eq__(self, other):
        return isinstance(other, Best) and self.clue == other.clue and self.width == other.width

    def __neg__(self):
        return Best(-self.clue, self.width)

    def lets(self, thing):
        """Whether any value is a sound rule of at most as many cells as the width."""
        if not isinstance(thing, Rule) or thing.alphabet != self.alphabet or len(thing) > self.width:
            return False
        return is_sound_rule(thing, self.clue)

    def strikes(self, line):
        """The strikes that lead from the line to what is left, each a pair of a place and a value."""
        for strike in self.each_strike(line):
            yield strike

    def first_strike(self, numbers, start):
        """The first strike of a line in which none is ahead of the place start; None if there is none."""
        for place in range(start, len(numbers)):
            for value in self.struck_at(numbers, place):
                return place, value
        return None

    def all_strikes(self, numbers):
        """The list of all strikes of a line, in order."""
        return [(place, value) for place in range(len(numbers)) for value in self.struck_at(numbers, place)]

    def struck_at(self, numbers, place):
        """The values of a cell that are struck, in order."""
        many = min(self.width, len(numbers))
        found = 0
        for start in range(max(0, place - many + 1), min(place, len(numbers) - many) + 1):
            end = start + many
            struck = self.struck_within(tuple(numbers[start:end]), start == 0, end == len(numbers))
            found = found | struck[place - start]
        return [letter for k, letter in enumerate(self.alphabet.letters) if (found >> k) & 1]

    def struck_within(self, numbers, is_start, is_end):
        """The numbers of the values that are struck in each cell of a window. Each window is looked at once."""
        key = (is_start, is_end, numbers)
        if key not in self.looked:
            left = self.sets.factor_numbers(numbers, is_start, is_end)
            self.looked[key] = [number & ~kept for number, kept in zip(numbers, left)]
        return self.looked[key]

    def target(self, strike):
        """The index of the cell that a strike strikes, and the number of the value there."""
        place, value = strike
        return place, self.alphabet.cell(value).number

    def cause_of(self, strike):
        """The error that tells of a strike that would leave an empty cell."""
        place, value = strike
        return Barred(place, value)

    def walked(self):
        """The windows of lines that are walked through cell by cell."""
        return FactorWindows(self.sets, self.width, self.alphabet.full.number)


def factors(clue, cells, *, left=False, right=False):
    """The cells with the values that the factors within some cells have there."""
    if not is_row(cells, 1, MOST_FACTOR_CELLS):
        raise BadLine(None)
    taken = [cell_from(clue.alphabet, cell) for cell in cells]
    for at, cell in enumerate(taken):
        if cell is None or not cell.letters:
            raise BadLine(at)
    numbers = StateSets(clue).factor_numbers(numbers_of(taken), left, right)
    return tuple([clue.alphabet.numbered(number) for number in numbers])
