"""Values, and the cells that are sets of them."""

from linestrikes.checks import is_from, is_letter_of, same_values
from linestrikes.errors import BadCell, BadNames, BadNumber, BadValues

SMALL_LETTERS = "abcdefghijklmnopqrstuvwxyz"


class Values:
    """Two to four letters, in an order."""

    MOST = 4

    def __init__(self, letters):
        if not are_values_letters(letters):
            raise BadValues(letters)
        self.letters = letters
        self.by_number = tuple([Cell(self, number) for number in range(1 << len(letters))])

    def __len__(self):
        return len(self.letters)

    def __contains__(self, x):
        return is_letter_of(self.letters, x)

    def __eq__(self, other):
        return isinstance(other, Values) and self.letters == other.letters

    @property
    def full(self):
        """The cell with all letters."""
        return self.by_number[-1]

    @property
    def empty(self):
        """The cell without letters."""
        return self.by_number[0]

    def cell(self, letters):
        """The cell with these letters."""
        number = number_of_letters(self.letters, letters)
        if number is None:
            raise BadCell(letters)
        return self.by_number[number]

    def numbered(self, number):
        """The cell with this number."""
        if not is_from(number, 0, len(self.by_number) - 1):
            raise BadNumber("number")
        return self.by_number[number]

    def each_cell(self):
        """All cells, by their numbers."""
        for cell in self.by_number:
            yield cell

    def renamed(self, names):
        """Values with other letters in the same order."""
        if not are_names(self.letters, names):
            raise BadNames()
        return Values("".join([names[letter] for letter in self.letters]))


class Cell:
    """A set of letters of some values. Values alone make cells."""

    def __init__(self, alphabet, number):
        self.alphabet = alphabet
        self.number = number
        self.letters = "".join([letter for k, letter in enumerate(alphabet.letters) if (number >> k) & 1])

    @property
    def is_sure(self):
        """Whether the cell has just one letter."""
        return len(self.letters) == 1

    def __eq__(self, other):
        return isinstance(other, Cell) and self.alphabet == other.alphabet and self.number == other.number

    def __len__(self):
        return len(self.letters)

    def __bool__(self):
        return bool(self.letters)

    def __iter__(self):
        return iter(self.letters)

    def __contains__(self, x):
        return is_letter_of(self.letters, x)

    def __str__(self):
        return str(self.letters or ".")

    def __and__(self, other):
        same_values(self, other)
        return self.alphabet.numbered(self.number & other.number)

    def __or__(self, other):
        same_values(self, other)
        return self.alphabet.numbered(self.number | other.number)

    def __sub__(self, other):
        same_values(self, other)
        return self.alphabet.numbered(self.number & ~other.number)

    def __xor__(self, other):
        same_values(self, other)
        return self.alphabet.numbered(self.number ^ other.number)

    def __invert__(self):
        return self.alphabet.numbered(self.alphabet.full.number - self.number)

    def within(self, other):
        """Whether the other cell has each letter of this one."""
        same_values(self, other)
        return (self.number & ~other.number) == 0


def are_values_letters(letters):
    """Whether any value is a string of the letters of some values."""
    return isinstance(letters, str) and 2 <= len(letters) <= Values.MOST and are_unlike_letters(letters)


def are_unlike_letters(letters):
    """Whether the items, any values, are different letters a to z."""
    return all([is_letter_of(SMALL_LETTERS, letter) for letter in letters]) and len(set(letters)) == len(letters)


def are_names(letters, names):
    """Whether any value is a dict with just these letters as keys, and different letters a to z as values."""
    if not isinstance(names, dict) or len(names) != len(letters):
        return False
    return all([letter in names for letter in letters]) and are_unlike_letters([names[letter] for letter in letters])


def number_of_letters(letters, some):
    """The number of the cell with some of the letters; None for any value that is no string of different ones."""
    if not isinstance(some, str) or len(some) > len(letters) or len(set(some)) < len(some):
        return None
    if not all([letter in letters for letter in some]):
        return None
    return sum([1 << letters.index(letter) for letter in some])


def cell_from(values, thing):
    """The cell of the values that a Cell or a string, any value, stands for; None if it stands for none."""
    if isinstance(thing, Cell):
        return values.numbered(thing.number) if thing.alphabet == values else None
    number = number_of_letters(values.letters, thing)
    return None if number is None else values.numbered(number)


def numbers_of(cells):
    """The list of the numbers of some cells, or of the cells of a line."""
    return [cell.number for cell in cells]
