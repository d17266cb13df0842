"""The fewest letters of a word that a striker needs to find it."""

from linestrikes.checks import is_integer, wrong_letter
from linestrikes.errors import BadWord, NotStable, TooMany
from linestrikes.lines import Line

MOST_CELLS = 8


class Givens:
    """The fewest places that tell a word, and what is left if one place less is given."""

    def __init__(self, striker, word, chosen, lines):
        self.striker = striker
        self.word = word
        self.chosen = chosen
        self.lines = lines

    def __len__(self):
        return len(self.chosen)

    def __contains__(self, x):
        return is_integer(x) and x in self.chosen


def asked(values, word, places):
    """The line with the letters of a word at some places, and with all values elsewhere."""
    return Line(values, [letter if at in places else values.full for at, letter in enumerate(word)])


def givens(striker, word):
    """The Givens with the fewest places that tell a word."""
    at = 0 if word == "" else wrong_letter(striker.alphabet.letters, word)
    if at is not None:
        raise BadWord(at)
    if len(word) > MOST_CELLS:
        raise TooMany("cells", MOST_CELLS)
    sure = Line.sure(striker.alphabet, word)
    if not striker.is_stable(sure):
        raise NotStable()
    return fewest_givens(striker, sure)


def fewest_givens(striker, sure):
    """The Givens of a word, told by its sure line, which is stable: so all its places tell it."""
    word = sure.solution
    lines = []
    rows = [()]
    left = lines_left(striker, word, rows)
    while sure not in left:
        lines = left
        rows = longer_rows(rows, len(word))
        left = lines_left(striker, word, rows)
    return Givens(striker, word, rows[left.index(sure)], tuple(lines))


def lines_left(striker, word, rows):
    """What is left of the asked line of each row of places."""
    return [striker(asked(striker.alphabet, word, places)) for places in rows]


def longer_rows(rows, many):
    """The ascending tuples of one place more, out of so many places, in order if those ahead of them are in order."""
    return [(*row, place) for row in rows for place in range(row[-1] + 1 if row else 0, many)]
