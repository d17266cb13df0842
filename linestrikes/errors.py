"""All errors of the package, each with the fields that tell what was wrong."""


class LineError(ValueError):
    """The base of all errors of this package."""


class BadInput(LineError):
    """Something that was passed is not as it must be."""


class NoAnswer(LineError):
    """What was asked for does not exist, or is too large."""


class Struck(LineError):
    """The cause of a clash: the rule with this number fits at this place."""

    def __init__(self, place, number):
        self.place = place
        self.number = number


class Barred(LineError):
    """The cause of a clash: a best striker bars this value at this place."""

    def __init__(self, place, value):
        self.place = place
        self.value = value


class BadValues(BadInput):
    """Not two to four letters, or no Values."""

    def __init__(self, value):
        self.value = value


class BadNames(BadInput):
    """No new letters for just the letters of some values."""


class BadCell(BadInput):
    """No cell of the values."""

    def __init__(self, value):
        self.value = value


class BadLine(BadInput):
    """No row of cells: at is the first wrong one, or None."""

    def __init__(self, at):
        self.at = at


class BadWord(BadInput):
    """No word of the values: at is the first wrong letter."""

    def __init__(self, at):
        self.at = at


class BadMachine(BadInput):
    """No machine: part is the first wrong argument."""

    def __init__(self, part):
        self.part = part


class BadClue(BadInput):
    """No clue of this kind: part is the first wrong argument, or its index."""

    def __init__(self, part):
        self.part = part


class BadRule(BadInput):
    """No rule: part is the first wrong argument."""

    def __init__(self, part):
        self.part = part


class BadBook(BadInput):
    """No book: at is the first wrong rule, or None."""

    def __init__(self, at):
        self.at = at


class BadNumber(BadInput):
    """A number out of its bounds: part is the name of the argument."""

    def __init__(self, part):
        self.part = part


class NoCell(BadInput):
    """The line has no cell with this index."""

    def __init__(self, at):
        self.at = at


class Unlike(BadInput):
    """Two things that are used together differ in this part."""

    def __init__(self, part):
        self.part = part


class BadText(BadInput):
    """A text in which this word of this line cannot stand."""

    def __init__(self, line, word):
        self.line = line
        self.word = word


class BadSay(BadInput):
    """A line for a desk in which this word cannot stand."""

    def __init__(self, word):
        self.word = word


class Clash(NoAnswer):
    """No value is left in the cell at this place."""

    def __init__(self, place):
        self.place = place


class TooMany(NoAnswer):
    """There are more of these than the most that are let."""

    def __init__(self, what, most):
        self.what = what
        self.most = most


class NoRule(NoAnswer):
    """The book has no such rule."""

    def __init__(self, rule):
        self.rule = rule


class NotStable(NoAnswer):
    """The sure line of a word is not stable."""


class NothingTold(NoAnswer):
    """Nothing was told of what is needed."""

    def __init__(self, what):
        self.what = what
