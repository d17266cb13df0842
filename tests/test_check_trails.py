import unittest

from linestrikes.books import Book
from linestrikes.check_trails import shows_clash, shows_left
from linestrikes.errors import Unlike
from linestrikes.lines import Line
from linestrikes.rules import Rule
from linestrikes.trails import trail
from linestrikes.values import Values
from tests.slow import clash_as_told, left_trail_as_told
from tests.support import ABC, OX, XO, Checks, Dice, any_values, mutants, strikes_by_hand

PAIR = Book(XO, Rule(XO, ["x", "xo"], 1, "x"), Rule(XO, ["xo", "x"], 0, "x"))
OPEN = Line(XO, ["xo", "x", "xo", "xo"])
LEFT = Line(XO, ["o", "x", "o", "xo"])
BAD = Line(XO, ["xo", "x", "x"])


def shuffled_strikes(book, line, dice):
    """Strikes in some order, up to what is left or to a clash, and whether they clash."""
    cells = [set(cell.letters) for cell in line]
    done = []
    while True:
        found = strikes_by_hand(book, cells)
        if not found:
            return done, False
        place, number = found[dice.below(len(found))]
        rule = book.rules[number]
        done.append((place, number))
        cells[place + rule.at] = cells[place + rule.at] - {rule.value}
        if not cells[place + rule.at]:
            return done, True


class ShowsLeft(Checks, unittest.TestCase):

    def test_any_order_as_a_list_and_as_a_tuple(self):
        dice = Dice(61)
        kinds = [0, 0]
        for values in (XO, ABC):
            for _ in range(150):
                book, line = dice.book(values, 4, 3), dice.line(values, 1 + dice.below(5))
                kept = str(line)
                end = trail(book, line)
                done, is_clash = shuffled_strikes(book, line, dice)
                self.exactly(is_clash, end.left is None)
                kinds[is_clash] += 1
                for strikes in (done, tuple(done)):
                    self.exactly(shows_left(book, line, strikes, end.left), not is_clash)
                    self.exactly(shows_clash(book, line, strikes), is_clash)
                self.exactly(shows_left(book, line, end.done, end.left), not is_clash)
                self.exactly(shows_clash(book, line, end.done), is_clash)
                self.exactly(str(line), kept)
        self.assertTrue(min(kinds) > 20)

    def test_each_change_of_the_strikes(self):
        self.exactly(shows_left(PAIR, OPEN, ((1, 0), (0, 1)), LEFT), True)
        self.exactly(shows_left(book=PAIR, line=OPEN, strikes=[(0, 1), (1, 0)], left=LEFT.copy()), True)
        for strikes in (((1, 0), (0, 1)), [(0, 1), (1, 0)]):
            for other in mutants(strikes):
                self.exactly(shows_left(PAIR, OPEN, other, LEFT), left_trail_as_told(PAIR, OPEN, other, LEFT), other)
        wrong = [((1, 0),), ((1, 0), (0, 1), (0, 1)), ((1, 0), (0, 1), (2, 1)), ((True, 0), (0, 1)), ((1, False), (0, 1)),
                 ([1, 0], (0, 1)), ((1, 0, 0), (0, 1)), ((1, 0), (0, 2)), ((1, 0), (0, -1)), ((1, 0), (-4, 1)),
                 ((1, 0), (4, 1)), ((1, 0), (10 ** 59, 1)), ((1, 0), (0, 10 ** 59)), ((1, 0), ()), {(1, 0): 1, (0, 1): 1}]
        for strikes in wrong:
            self.exactly(shows_left(PAIR, OPEN, strikes, LEFT), False, strikes)
            self.exactly(shows_clash(PAIR, OPEN, strikes), False, strikes)

    def test_changed_strikes_of_many_books(self):
        dice = Dice(62)
        for _ in range(25):
            book, line = dice.book(XO, 3, 3), dice.line(XO, 1 + dice.below(4))
            end = trail(book, line)
            done, _ = shuffled_strikes(book, line, dice)
            for other in mutants(tuple(done)):
                self.exactly(shows_left(book, line, other, end.left), left_trail_as_told(book, line, other, end.left))
                self.exactly(shows_clash(book, line, other), clash_as_told(book, line, other))

    def test_another_left(self):
        strikes = ((1, 0), (0, 1))
        for left in (OPEN, Line(XO, ["o", "x", "o"]), Line(XO, ["o", "x", "o", "o"]), Line(OX, ["o", "x", "o", "xo"]),
                     Line(ABC, ["a", "b", "c", "abc"]), -LEFT, "o x o xo", ["o", "x", "o", "xo"], LEFT.cells):
            self.exactly(shows_left(PAIR, OPEN, strikes, left), False)
        for left in any_values() + any_values(ABC):
            self.exactly(shows_left(PAIR, OPEN, strikes, left), False)
            self.exactly(shows_left(PAIR, BAD, ((1, 0),), left), False)

    def test_strikes_that_are_none(self):
        for strikes in any_values():
            self.exactly(shows_left(PAIR, LEFT, strikes, LEFT), type(strikes) in (list, tuple) and len(strikes) == 0)
            self.exactly(shows_left(PAIR, OPEN, strikes, LEFT), False)
            self.exactly(shows_clash(PAIR, BAD, strikes), False)

    def test_a_rule_that_still_strikes(self):
        self.exactly(shows_left(PAIR, OPEN, (), OPEN), False)
        self.exactly(shows_left(PAIR, OPEN, ((1, 0),), Line(XO, ["xo", "x", "o", "xo"])), False)
        self.exactly(shows_left(PAIR, LEFT, (), LEFT), True)
        self.exactly(shows_left(Book(XO), OPEN, [], OPEN), True)

    def test_unlike_values_are_ahead(self):
        for line in (Line.free(OX, 2), Line.free(ABC, 2), Line.free(Values("xoa"), 3)):
            for strikes in ((), None, ((0, 0),)):
                self.raises(Unlike("values"), shows_left, PAIR, line, strikes, line)
                self.raises(Unlike("values"), shows_left, PAIR, line, strikes, None)
                self.raises(Unlike("values"), shows_clash, PAIR, line, strikes)

    def test_long_lines(self):
        line = Line(XO, ["x", "xo", "xo"] * 1333)
        done = trail(PAIR, line).done
        self.exactly(shows_left(PAIR, line, done[::-1], PAIR(line)), True)
        self.exactly(shows_left(PAIR, line, done[1:], PAIR(line)), False)


class ShowsClash(Checks, unittest.TestCase):

    def test_each_change(self):
        for strikes in (((1, 0),), [(0, 1), (1, 0)], ((1, 1),), [(0, 1), (1, 1)]):
            self.exactly(shows_clash(PAIR, BAD, strikes), True)
            for other in mutants(strikes):
                self.exactly(shows_clash(PAIR, BAD, other), clash_as_told(PAIR, BAD, other), other)

    def test_what_shows_no_clash(self):
        for strikes in ((), [], ((0, 1),), ((1, 0), (0, 1)), ((1, 0), (1, 0)), ((1, 0), (1, 1)), ((True, 0),), ([1, 0],),
                        ((1, False),), ((1, 2),), ((2, 0),), ((-2, 0),), "10", {(1, 0): 0}):
            self.exactly(shows_clash(PAIR, BAD, strikes), False)
        self.exactly(shows_clash(book=PAIR, line=BAD, strikes=[(1, 0)]), True)
        self.exactly(shows_clash(PAIR, OPEN, ((1, 0), (0, 1))), False)
        self.exactly(shows_clash(PAIR, Line(XO, ["x", "x"]), [(0, 0)]), True)
        self.exactly(shows_left(PAIR, Line(XO, ["x", "x"]), [(0, 0)], None), False)


if __name__ == "__main__":
    unittest.main()
