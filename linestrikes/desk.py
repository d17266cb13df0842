"""A desk that carries out lines of words, and answers each of them."""

from linestrikes.best import Best
from linestrikes.books import Book
from linestrikes.compare import trimmed
from linestrikes.complete import judge_complete
from linestrikes.cursor import Cursor
from linestrikes.errors import BadBook, BadClue, BadNumber, BadSay, BadText, BadWord, Clash
from linestrikes.errors import NoCell, NoRule, NotStable, TooMany
from linestrikes.givens import givens
from linestrikes.guess import Search
from linestrikes.kind_rows import clue_of_kind, read_kind
from linestrikes.kinds import Every
from linestrikes.lines import Line
from linestrikes.rules import read_rule
from linestrikes.sound import judge_sound
from linestrikes.supports import count_words, left_by
from linestrikes.trails import trail
from linestrikes.widths import least_width

MOST_CELLS = 30
DONE = "ok"
NONE = "none"
NO_VALUES = "no values"
NO_LINE = "no line"


def put_values(desk, cursor):
    """Begins anew with these values."""
    values = cursor.read_values()
    cursor.finish()
    desk.alphabet = values
    desk.clue = Every(values)
    desk.book = Book(values)
    desk.line = None
    desk.earlier = []
    return DONE


def put_clue(desk, cursor):
    """Takes a kind as the clue."""
    kind = read_kind(desk.alphabet, cursor)
    desk.clue = clue_of_kind(desk.alphabet, kind)
    return DONE


def and_clue(desk, cursor):
    """Joins a kind to the clue by &."""
    kind = read_kind(desk.alphabet, cursor)
    desk.clue = desk.clue & clue_of_kind(desk.alphabet, kind)
    return DONE


def or_clue(desk, cursor):
    """Joins a kind to the clue by |."""
    kind = read_kind(desk.alphabet, cursor)
    desk.clue = desk.clue | clue_of_kind(desk.alphabet, kind)
    return DONE


def put_rule(desk, cursor):
    """Puts a rule to the end of the book."""
    rule = read_rule(desk.alphabet, cursor)
    cursor.finish()
    desk.book = desk.book + rule
    return DONE


def drop_rule(desk, cursor):
    """Takes the rule with a number out of the book."""
    number = cursor.read_number()
    cursor.finish()
    desk.book = desk.book - desk.book[number]
    return DONE


def tell_rules(desk, cursor):
    """The texts of the rules."""
    cursor.finish()
    return " / ".join([str(rule) for rule in desk.book]) or NONE


def put_line(desk, cursor):
    """Takes a line. No line ahead of it comes back."""
    cells = cursor.read_cells(desk.alphabet, MOST_CELLS)
    cursor.finish()
    desk.line = Line(desk.alphabet, cells)
    desk.earlier = []
    return DONE


def set_cell(desk, cursor):
    """Narrows a cell of the line."""
    number = cursor.read_number()
    cell = cursor.read_cell(desk.alphabet)
    cursor.finish()
    if desk.line is None:
        return NO_LINE
    line = desk.line.copy()
    line[number] = cell
    take_line(desk, line)
    return DONE


def strike_line(desk, cursor):
    """Lets the book strike the line."""
    cursor.finish()
    if desk.line is None:
        return NO_LINE
    found = trail(desk.book, desk.line)
    if found.left is None:
        place, number = found.done[-1]
        return f"clash at {found.clash} by {number} at {place}"
    take_line(desk, found.left)
    return told_left(found.left)


def take_line(desk, line):
    """Puts a line in the place of the line, which may come back."""
    desk.earlier.append(desk.line)
    desk.line = line


def go_back(desk, cursor):
    """Goes back to the line ahead of the last change."""
    cursor.finish()
    if desk.line is None:
        return NO_LINE
    if not desk.earlier:
        return "nothing"
    desk.line = desk.earlier.pop()
    return DONE


def tell_should(desk, cursor):
    """What right words leave of the line."""
    cursor.finish()
    if desk.line is None:
        return NO_LINE
    left = left_by(desk.clue, desk.line)
    return NONE if left is None else told_left(left)


def told_left(line):
    """The answer that tells a line that is left."""
    return f"left {line}"


def tell_words(desk, cursor):
    """How many right words are within the line."""
    cursor.finish()
    if desk.line is None:
        return NO_LINE
    return str(count_words(desk.clue, desk.line))


def tell_sound(desk, cursor):
    """Whether the book is sound."""
    cursor.finish()
    judged = judge_sound(desk.book, desk.clue)
    if judged:
        return "sound"
    return f"spoils {judged.spoiled} at {judged.place} by {judged.number}"


def tell_complete(desk, cursor):
    """Whether the book is complete."""
    cursor.finish()
    return told_complete(desk.book, desk.clue)


def tell_best(desk, cursor):
    """Whether the best striker of a width is complete."""
    width = cursor.read_number()
    cursor.finish()
    return told_complete(Best(desk.clue, width), desk.clue)


def told_complete(striker, clue):
    """The answer that tells whether a striker is complete."""
    judged = judge_complete(striker, clue)
    if judged:
        return f"complete {len(judged.table)}"
    return f"leaves {judged.value} at {judged.place} of {judged.line}"


def tell_width(desk, cursor):
    """The least width for the clue."""
    cursor.finish()
    width = least_width(desk.clue)
    return NONE if width is None else str(width)


def trim_book(desk, cursor):
    """Leaves needless rules out of the book."""
    cursor.finish()
    desk.book = trimmed(desk.book)
    return f"{DONE} {len(desk.book)}"


def tell_givens(desk, cursor):
    """The places of the givens of a word."""
    word = cursor.read_word(desk.alphabet)
    cursor.finish()
    found = givens(desk.book, word)
    return " ".join([str(place) for place in found.chosen]) or NONE


def tell_search(desk, cursor):
    """The words that a search finds in the line."""
    cursor.finish()
    if desk.line is None:
        return NO_LINE
    search = Search(desk.book, desk.line)
    return " ".join(list(search.words())) or NONE


ACTIONS = {
    "values": put_values, "clue": put_clue, "and": and_clue, "or": or_clue,
    "rule": put_rule, "drop": drop_rule, "rules": tell_rules, "trim": trim_book,
    "line": put_line, "set": set_cell, "strike": strike_line, "back": go_back,
    "should": tell_should, "words": tell_words, "search": tell_search, "givens": tell_givens,
    "sound": tell_sound, "complete": tell_complete, "best": tell_best, "width": tell_width,
}


class Desk:
    """Keeps a clue, a book and a line, and the lines to which it may go back."""

    def __init__(self):
        self.alphabet = None
        self.clue = None
        self.book = None
        self.line = None
        self.earlier = []

    def __call__(self, line):
        return self.say(line)

    def say(self, line):
        """Carries out a line, and returns the answer."""
        try:
            return self.answer(Cursor(0, line))
        except BadText as wrong:
            raise BadSay(wrong.word) from None
        except Clash as clash:
            return f"clash at {clash.place}"
        except BadBook:
            return "refused BadBook"
        except BadClue:
            return "refused BadClue"
        except BadNumber:
            return "refused BadNumber"
        except BadWord:
            return "refused BadWord"
        except NoCell:
            return "refused NoCell"
        except NoRule:
            return "refused NoRule"
        except NotStable:
            return "refused NotStable"
        except TooMany:
            return "refused TooMany"

    def answer(self, cursor):
        """The answer to a line, which raises an error if it is of no form, is refused or clashes."""
        word = cursor.expect(list(ACTIONS))
        if self.alphabet is None and word != "values":
            return NO_VALUES
        action = ACTIONS[word]
        return action(self, cursor)

    def run(self, *lines):
        """The list of the answers to some lines."""
        return [self.say(line) for line in lines]

    def line_copy(self):
        """A copy of the line, None if there is none."""
        return None if self.line is None else self.line.copy()
