import unittest

from linestrikes.books import Book
from linestrikes.errors import Unlike
from linestrikes.lines import Line
from linestrikes.rules import Rule
from linestrikes.trails import Trail, trail
from tests.support import ABC, OX, XO, Checks, Dice, struck_by_hand


class Trails(Checks, unittest.TestCase):

    def test_trails_with_and_without_a_clash(self):
        dice = Dice(51)
        kinds = [0, 0]
        for values in (XO, ABC):
            for _ in range(200):
                book, line = dice.book(values, 4, 3), dice.line(values, 1 + dice.below(6))
                kept = str(line)
                done, left, clash = struck_by_hand(book, line)
                found = trail(book, line)
                self.assertIsInstance(found, Trail)
                if clash is None:
                    self.exactly([found.done, found.clash], [tuple(done), None])
                    self.exactly([cell.letters for cell in found.left], left)
                    self.assertTrue(found.left == book(line) and found.left is not line)
                else:
                    self.exactly([found.done, found.left, found.clash], [(*done, clash[1:]), None, clash[0]])
                kinds[clash is None] += 1
                self.exactly(str(line), kept)
        self.assertTrue(min(kinds) > 20)

    def test_a_trail_of_nothing(self):
        line = Line.free(XO, 2)
        found = trail(book=Book(XO), line=line)
        self.exactly([found.done, found.clash, str(found.left)], [(), None, "xo xo"])
        line[0] = "x"
        self.exactly(str(found.left), "xo xo")

    def test_the_first_strike_clashes(self):
        found = trail(Book(XO, Rule(XO, ["x"], 0, "x")), Line(XO, ["o", "x"]))
        self.exactly([found.done, found.left, found.clash], [((1, 0),), None, 1])

    def test_unlike_values(self):
        book = Book(XO, Rule(XO, ["x"], 0, "x"))
        self.raises(Unlike("values"), trail, book, Line.free(OX, 2))
        self.raises(Unlike("values"), trail, book, Line.free(ABC, 2))


if __name__ == "__main__":
    unittest.main()
