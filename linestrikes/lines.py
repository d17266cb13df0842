"""Lines of cells, and what narrows them."""

from linestrikes.checks import is_from, is_row, same_values, wrong_letter
from linestrikes.cursor import Cursor
from linestrikes.errors import BadCell, BadLine, BadNumber, BadWord, Clash, NoCell, Unlike
from linestrikes.spelling import each_word
from linestrikes.values import cell_from, numbers_of


class Narrower:
    """What narrows lines: other lines, and strikers."""

    def narrowed(self, line):
        """Narrows the line itself."""
        raise NotImplementedError("each kind of narrower has its own way")


class Line(Narrower):
    """A row of cells, none of which is empty."""

    LONGEST = 4001

    def __init__(self, values, cells):
        if not is_row(cells, 1, Line.LONGEST):
            raise BadLine(None)
        held = [cell_from(values, cell) for cell in cells]
        for at, cell in enumerate(held):
            if cell is None or not cell.letters:
                raise BadLine(at)
        self.alphabet = values
        self.held = tuple(held)

    @classmethod
    def free(cls, values, many):
        """So many full cells."""
        if not is_from(many, 1, cls.LONGEST):
            raise BadNumber("many")
        return cls(values, [values.full] * many)

    @classmethod
    def sure(cls, values, word):
        """The line whose cells have just the letters of a word."""
        at = wrong_letter(values.letters, word)
        if at is None and not 1 <= len(word) <= cls.LONGEST:
            at = len(word)
        if at is not None:
            raise BadWord(min(at, cls.LONGEST))
        return cls(values, list(word))

    @classmethod
    def read(cls, values, text):
        """The line with this text."""
        cursor = Cursor(0, text)
        cells = cursor.read_cells(values, cls.LONGEST)
        cursor.finish()
        return cls(values, cells)

    @property
    def cells(self):
        """The tuple of the cells."""
        return self.held

    @property
    def solution(self):
        """The word of a line whose cells are all sure, otherwise None."""
        letters = [cell.letters for cell in self.held]
        if max([len(some) for some in letters]) > 1:
            return None
        return "".join(letters)

    @property
    def many(self):
        """The number of words that fit."""
        total = 1
        for cell in self.held:
            total = total * len(cell.letters)
        return total

    @property
    def open_places(self):
        """The indexes of the cells with two letters at least."""
        return tuple([at for at, cell in enumerate(self.held) if len(cell.letters) > 1])

    def __len__(self):
        return len(self.held)

    def __iter__(self):
        return iter(self.held)

    def __getitem__(self, at):
        if not is_from(at, 0, len(self.held) - 1):
            raise NoCell(at)
        return self.held[at]

    def __setitem__(self, at, worth):
        if not is_from(at, 0, len(self.held) - 1):
            raise NoCell(at)
        taken = cell_from(self.alphabet, worth)
        if taken is None:
            raise BadCell(worth)
        both = self.held[at] & taken
        if not both.letters:
            raise Clash(at)
        self.held = self.held[:at] + (both,) + self.held[at + 1:]

    def __contains__(self, x):
        if not isinstance(x, str) or len(x) != len(self.held):
            return False
        return all([letter in cell.letters for letter, cell in zip(x, self.held)])

    def __eq__(self, other):
        return isinstance(other, Line) and self.alphabet == other.alphabet and self.held == other.held

    def __str__(self):
        return " ".join([str(cell) for cell in self.held])

    def __and__(self, other):
        return Line(self.alphabet, common_cells(self, other))

    def __or__(self, other):
        same_form(self, other)
        return Line(self.alphabet, [mine | their for mine, their in zip(self.held, other.held)])

    def __iand__(self, other):
        # A narrower may stop halfway with an error.
        with Attempt(self):
            other.narrowed(self)
        return self

    def __neg__(self):
        return Line(self.alphabet, self.held[::-1])

    def words(self):
        """The words that fit, in order."""
        letters = self.alphabet.letters
        numbers = numbers_of(self.held)
        steps = [[0] * len(letters)]
        told = [True]
        for word in each_word(letters, steps, told, numbers):
            yield word

    def within(self, other):
        """Whether each cell is within the one of the other line."""
        same_form(self, other)
        return all([mine.within(their) for mine, their in zip(self.held, other.held)])

    def narrowed(self, line):
        """Leaves in each cell of the other line the letters that both have."""
        line.held = tuple(common_cells(line, self))

    def copy(self):
        """A new line with the same cells."""
        return Line(self.alphabet, self.held)

    def renamed(self, names):
        """A new line with other letters."""
        return line_of(self.alphabet.renamed(names), numbers_of(self.held))

    def guess(self):
        """For a with statement: behind its block the line is as it was."""
        return Guess(self)

    def guessed(self, ask):
        """What a function returns of the line, which is then as it was."""
        with self.guess():
            return ask(self)


class Guess:
    """Gives a line back the cells that it had when the block began."""

    def __init__(self, line):
        self.line = line
        self.kept = line.held

    def __enter__(self):
        line = self.line
        self.kept = line.held
        return line

    def __exit__(self, kind, value, trace):
        line = self.line
        line.held = self.kept


class Attempt:
    """Gives a line back the cells that it had when the block began, if an error left the block."""

    def __init__(self, line):
        self.line = line
        self.kept = line.held

    def __enter__(self):
        return self.line

    def __exit__(self, kind, value, trace):
        line = self.line
        if kind is not None:
            line.held = self.kept


def same_form(one, other):
    """Refuses two lines of unlike values or lengths."""
    same_values(one, other)
    if len(one.held) != len(other.held):
        raise Unlike("length")


def common_cells(one, other):
    """The list of the cells with the letters that both lines have."""
    same_form(one, other)
    cells = [mine & their for mine, their in zip(one.held, other.held)]
    for at, cell in enumerate(cells):
        if not cell.letters:
            raise Clash(at)
    return cells


def line_of(values, numbers):
    """The new line with cells of these numbers."""
    return Line(values, [values.numbered(number) for number in numbers])
