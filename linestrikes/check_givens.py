"""Looks at what is said to show that these are the fewest givens of a word."""

from linestrikes.checks import is_index_row
from linestrikes.givens import asked, longer_rows
from linestrikes.lines import Line


def shows_givens(striker, word, places, lines):
    """Whether any values show that a word is told by its letters at these places, and by no fewer ones."""
    if not is_index_row(places, len(word)) or not isinstance(lines, (list, tuple)) or word == "":
        return False
    sure = Line.sure(striker.alphabet, word)
    # Within a line that is asked for stands the sure line: so nothing clashes there if it is stable.
    if not striker.is_stable(sure) or striker(asked(striker.alphabet, word, places)) != sure:
        return False
    rows = fewer_places(len(word), len(places) - 1)
    return len(lines) == len(rows) and all([lets_other(striker, sure, row, line) for row, line in zip(rows, lines)])


def fewer_places(many, size):
    """The ascending tuples of so many out of many places, in order; none if there is no such number of places."""
    if size < 0:
        return []
    rows = [()]
    for _ in range(size):
        rows = longer_rows(rows, many)
    return rows


def lets_other(striker, sure, places, thing):
    """Whether any value is a stable line that lets a word, but others too, and is sure at these places."""
    if not isinstance(thing, Line) or thing.alphabet != striker.alphabet or len(thing) != len(sure):
        return False
    if not sure.within(thing) or thing == sure or not all([thing[place].is_sure for place in places]):
        return False
    return striker.is_stable(thing)
