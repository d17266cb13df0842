import itertools
import unittest

from linestrikes.best import Best
from linestrikes.books import Book
from linestrikes.check_givens import shows_givens
from linestrikes.givens import asked, givens
from linestrikes.kinds import Listed, Modulo, Neighbours
from linestrikes.lines import Line
from linestrikes.rules import Rule
from linestrikes.values import Values
from tests.slow import is_int
from tests.support import ABC, OX, XO, Checks, Dice, any_values, mutants
from tests.test_givens import slow_left, some_words

APART = Neighbours(XO, "xo", "ox", "oo")
BEHIND = Rule(XO, ["x", "xo"], 1, "x")
PAIR = Book(XO, BEHIND, -BEHIND)
HALF = Book(XO, BEHIND)
EMPTY = Book(XO)
FREE = Line.free(XO, 3)


def givens_as_told(striker, word, places, lines):
    """What shows_givens must answer."""
    left_of = slow_left(striker)
    sure = Line.sure(striker.alphabet, word)
    if left_of(sure) != list(word):
        return False
    if type(places) is not tuple or not all(is_int(place) and 0 <= place < len(word) for place in places):
        return False
    if list(places) != sorted(set(places)) or left_of(asked(striker.alphabet, word, places)) != list(word):
        return False
    rows = list(itertools.combinations(range(len(word)), len(places) - 1)) if places else []
    if type(lines) not in (list, tuple) or len(lines) != len(rows):
        return False
    for row, line in zip(rows, lines):
        if type(line) is not Line or line.alphabet != striker.alphabet or len(line) != len(word):
            return False
        if word not in line or line == sure or any(len(line[place]) > 1 for place in row):
            return False
        if left_of(line) != [cell.letters for cell in line]:
            return False
    return True


class ShowsGivens(Checks, unittest.TestCase):

    def test_what_givens_tells(self):
        for striker, word in some_words(271, 40):
            found = givens(striker, word)
            self.exactly(shows_givens(striker, word, found.chosen, found.lines), True)
            self.exactly(shows_givens(striker, word, found.chosen, list(found.lines)), True)
            self.exactly(shows_givens(striker=striker, word=word, places=found.chosen, lines=found.lines), True)

    def test_other_places(self):
        answers = [0, 0]
        for striker, word in some_words(272, 12):
            found = givens(striker, word)
            for size in range(len(word) + 1):
                for places in itertools.combinations(range(len(word)), size):
                    for lines in (found.lines, (), found.lines[1:]):
                        wanted = givens_as_told(striker, word, places, lines)
                        self.exactly(shows_givens(striker, word, places, lines), wanted)
                        answers[wanted] += 1
        self.assertTrue(min(answers) > 50, answers)

    def test_lines_left_out_put_in_and_exchanged(self):
        many = 0
        for striker, word in some_words(273, 20):
            found = givens(striker, word)
            lines = found.lines
            sure = Line.sure(striker.alphabet, word)
            for at in range(len(lines)):
                many += 1
                others = [lines[:at] + lines[at + 1:], lines[:at] + (lines[at],) + lines[at:], lines + (lines[at],),
                          lines[:at] + (sure,) + lines[at + 1:], lines[:at] + (lines[0],) + lines[at + 1:],
                          lines[at + 1:] + lines[:at + 1]]
                for other in others:
                    self.exactly(shows_givens(striker, word, found.chosen, other),
                                 givens_as_told(striker, word, found.chosen, other))
                self.exactly(shows_givens(striker, word, found.chosen, others[0]), False)
                self.exactly(shows_givens(striker, word, found.chosen, others[2]), False)
                self.exactly(shows_givens(striker, word, found.chosen, others[3]), False)
        self.assertTrue(many > 60, many)

    def test_lines_narrowed_and_widened(self):
        """Any such line may be told, not just what is left of the asked one."""
        dice = Dice(274)
        answers = [0, 0]
        for striker, word in some_words(275, 25):
            found = givens(striker, word)
            for at, line in enumerate(found.lines):
                for _ in range(6):
                    cells = [dice.cell(line.alphabet) | cell for cell in Line.sure(line.alphabet, word)]
                    cells = [mine & cell if dice.below(3) else mine for mine, cell in zip(cells, line)]
                    other = found.lines[:at] + (Line(line.alphabet, cells),) + found.lines[at + 1:]
                    wanted = givens_as_told(striker, word, found.chosen, other)
                    self.exactly(shows_givens(striker, word, found.chosen, other), wanted)
                    answers[wanted] += 1
        self.assertTrue(min(answers) > 50, answers)

    def test_example(self):
        found = givens(PAIR, "oxo")
        self.exactly([shows_givens(PAIR, "oxo", found.chosen, found.lines), shows_givens(PAIR, "oxo", (1,), [FREE])],
                     [True, True])
        self.exactly(shows_givens(PAIR, "oxo", (1,), [Line(XO, ["xo", "x", "xo"])]), False)
        # Each other line is wrong in one way: the word does not fit, it is sure, not stable, too short, of other values.
        for line in (Line(XO, ["x", "xo", "xo"]), Line.sure(XO, "oxo"), Line(XO, ["xo", "x", "o"]), Line.free(XO, 2),
                     Line.free(XO, 4), Line.free(OX, 3), Line.free(Values("xoa"), 3), Line.sure(XO, "ooo"), "oxo", None,
                     FREE.cells, [XO.full] * 3, PAIR, XO.full, (3, 3, 3)):
            self.exactly(shows_givens(PAIR, "oxo", (1,), [line]), False, line)
        self.exactly(shows_givens(PAIR, "oxo", (1,), (Line(XO, ["o", "xo", "xo"]),)), True)
        # More places than needed tell the word, but with one place less no line can be told.
        for lines in ([FREE] * 3, [Line(XO, ["o", "xo", "xo"]), Line(XO, ["xo", "x", "xo"]), Line(XO, ["xo", "xo", "o"])], []):
            self.exactly(shows_givens(PAIR, "oxo", (0, 1), lines), False)

    def test_lines_that_are_not_sure_at_their_places(self):
        found = givens(PAIR, "ooo")
        self.exactly(shows_givens(PAIR, "ooo", (0, 1, 2), found.lines), True)
        for at in range(3):
            lines = list(found.lines)
            lines[at] = FREE
            self.exactly(shows_givens(PAIR, "ooo", (0, 1, 2), lines), False)
        self.exactly(shows_givens(PAIR, "ooo", (0, 1, 2), found.lines[::-1]), False)

    def test_no_places(self):
        one = Best(Listed(XO, "xox"), 4)
        for lines in ((), []):
            self.exactly(shows_givens(one, "xox", (), lines), True)
        for lines in ((FREE,), [FREE], None, "", 0, {}, ((),)):
            self.exactly(shows_givens(one, "xox", (), lines), False)
        self.exactly([shows_givens(one, "xox", [], ()), shows_givens(PAIR, "oxo", (), ())], [False, False])
        # One place more than needed: of the line without letters nothing but the word is left.
        self.exactly(shows_givens(one, "xox", (0,), (Line.sure(XO, "xox"),)), False)

    def test_wrong_places(self):
        for places in ((3,), (-1,), (True,), [1], (1, 1), (1, 0), "1", 1, None, ("1",), (None,), ((1,),), {1: 1}, (10 ** 59,),
                       (1, 1, 1), (0,), (2,), (), (1.0,)):
            self.exactly(shows_givens(PAIR, "oxo", places, [FREE]), False, places)
        for places in ((1, 0), (0, 0), (False, 1), (0, 2)):
            self.exactly(shows_givens(Best(Modulo(XO, "x", 2), 4), "xo", places, [Line.free(XO, 2)] * 2), False)

    def test_each_change(self):
        for word in ("oxo", "ooo", "xo"):
            found = givens(PAIR, word)
            for places in mutants(found.chosen):
                self.exactly(shows_givens(PAIR, word, places, found.lines),
                             givens_as_told(PAIR, word, places, found.lines), places)
            for lines in mutants(found.lines):
                self.exactly(shows_givens(PAIR, word, found.chosen, lines),
                             givens_as_told(PAIR, word, found.chosen, lines), lines)

    def test_a_word_whose_sure_line_is_not_stable(self):
        for word in ("xx", "oxx", "xxo", "xxxxxxxx"):
            for places in ((), (0,), (0, 1), tuple(range(len(word))), None):
                for lines in ((), [Line.free(XO, len(word))] * len(word), [Line.sure(XO, word)] * len(word), None):
                    for striker in (PAIR, Best(APART, 2), HALF):
                        self.exactly(shows_givens(striker, word, places, lines), False)

    def test_eight_cells_and_more(self):
        for many in (8, 9):
            word = "x" * many
            lines = [asked(XO, word, places) for places in itertools.combinations(range(many), many - 1)]
            self.exactly(shows_givens(EMPTY, word, tuple(range(many)), lines), True)
            self.exactly(shows_givens(EMPTY, word, tuple(range(many)), lines[:-1]), False)
            self.exactly(shows_givens(EMPTY, word, tuple(range(many - 1)), lines), False)
        self.exactly(shows_givens(EMPTY, "x" * 5, (0, 1, 2, 3), [FREE] * 5), False)

    def test_other_values(self):
        for thing in any_values() + any_values(ABC):
            self.exactly(shows_givens(PAIR, "oxo", thing, [FREE]), False)
            self.exactly(shows_givens(PAIR, "oxo", (1,), thing), False)
            wanted = isinstance(thing, Line) and thing == FREE
            self.exactly(shows_givens(PAIR, "oxo", (1,), [thing]), wanted)
            self.exactly(shows_givens(Best(APART, 2), "oxo", (1,), (thing,)), wanted)
            self.exactly(shows_givens(PAIR, "oxo", thing, thing), False)

    def test_the_empty_word(self):
        # No line has it, so that no line is left of one that is asked for.
        for striker in (EMPTY, PAIR, Best(APART, 2)):
            for lines in ((), [], (FREE,), None):
                self.exactly(shows_givens(striker, "", (), lines), False)

    def test_arguments_stay(self):
        lines = [Line.free(XO, 3)]
        self.exactly(shows_givens(PAIR, "oxo", (1,), lines), True)
        self.exactly([str(line) for line in lines], ["xo xo xo"])


if __name__ == "__main__":
    unittest.main()
