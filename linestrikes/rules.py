"""Rules, which strike a value where a pattern fits."""

from linestrikes.checks import is_from, is_row, same_values
from linestrikes.cursor import Cursor
from linestrikes.errors import BadRule, BadValues
from linestrikes.values import Values, cell_from, numbers_of


class Rule:
    """Strikes its value at its place in a row of neighbouring cells that are within its pattern."""

    LONGEST = 4

    def __init__(self, values, pattern, at, value, *, left=False, right=False):
        if not isinstance(values, Values):
            raise BadValues(values)
        cells = pattern_cells(values, pattern)
        if cells is None:
            raise BadRule("pattern")
        if not is_from(at, 0, len(cells) - 1):
            raise BadRule("at")
        if value not in cells[at]:
            raise BadRule("value")
        if not isinstance(left, bool):
            raise BadRule("left")
        if not isinstance(right, bool):
            raise BadRule("right")
        self.alphabet = values
        self.pattern = tuple(cells)
        self.at = at
        self.value = value
        self.left = left
        self.right = right
        self.wanted = numbers_of(cells)
        self.bit = values.cell(value).number

    @classmethod
    def read(cls, values, text):
        """The rule with this text."""
        cursor = Cursor(0, text)
        rule = read_rule(values, cursor)
        cursor.finish()
        return rule

    def __len__(self):
        return len(self.pattern)

    def __eq__(self, other):
        return (isinstance(other, Rule) and self.alphabet == other.alphabet and self.pattern == other.pattern
                and self.at == other.at and self.value == other.value
                and self.left == other.left and self.right == other.right)

    def __str__(self):
        start = ["["] if self.left else []
        end = ["]"] if self.right else []
        cells = [str(cell) for cell in self.pattern]
        return " ".join([*start, *cells, *end, "strike", self.value, "at", str(self.at)])

    def __neg__(self):
        at = len(self.pattern) - 1 - self.at
        return Rule(self.alphabet, self.pattern[::-1], at, self.value, left=self.right, right=self.left)

    def renamed(self, names):
        """The rule with other letters."""
        values = self.alphabet.renamed(names)
        pattern = [values.numbered(number) for number in self.wanted]
        return Rule(values, pattern, self.at, names[self.value], left=self.left, right=self.right)

    def fits(self, line, place):
        """Whether the rule fits a line at a place."""
        same_values(self, line)
        return self.fits_at(numbers_of(line), place)

    def hits(self, line, place):
        """Whether the rule strikes a line at a place."""
        same_values(self, line)
        return self.hits_at(numbers_of(line), place)

    def places(self, line):
        """The places at which the rule strikes a line, ascending."""
        same_values(self, line)
        numbers = numbers_of(line)
        for place in range(len(numbers)):
            if self.hits_at(numbers, place):
                yield place

    def fits_at(self, numbers, place):
        """Whether the rule fits at a place the line with cells of these numbers."""
        behind = place + len(self.wanted)
        if place < 0 or behind > len(numbers):
            return False
        if (self.left and place > 0) or (self.right and behind < len(numbers)):
            return False
        for k, wanted in enumerate(self.wanted):
            if numbers[place + k] & ~wanted:
                return False
        return True

    def hits_at(self, numbers, place):
        """Whether the rule strikes at a place the line with cells of these numbers."""
        return self.fits_at(numbers, place) and bool(numbers[place + self.at] & self.bit)


def pattern_cells(values, pattern):
    """The list of the cells of any value that is a pattern, otherwise None."""
    if not is_row(pattern, 1, Rule.LONGEST):
        return None
    cells = [cell_from(values, cell) for cell in pattern]
    if any([cell is None or not cell.letters for cell in cells]):
        return None
    return cells


def read_rule(values, cursor):
    """The rule whose text a cursor comes to."""
    left = cursor.accept("[")
    pattern = [cursor.read_cell(values)]
    while len(pattern) < Rule.LONGEST and not cursor.comes(["]", "strike"]):
        pattern.append(cursor.read_cell(values))
    right = cursor.accept("]")
    cursor.expect(["strike"])
    value = cursor.expect([letter for letter in values.letters if any([letter in cell for cell in pattern])])
    cursor.expect(["at"])
    at = cursor.expect([str(index) for index, cell in enumerate(pattern) if value in cell])
    return Rule(values, pattern, int(at), value, left=left, right=right)
