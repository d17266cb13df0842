import unittest

from linestrikes.books import Book
from linestrikes.clues import Machine
from linestrikes.kinds import Ends, Every, Few, Listed, Modulo, Neighbours, Never, Runs
from linestrikes.lines import Line
from linestrikes.reader import read, read_book, read_clue, read_line, read_trail
from linestrikes.rules import Rule
from linestrikes.texts import write_book, write_clue, write_line, write_trail
from linestrikes.trails import trail
from tests.support import ABC, ABCD, OX, XO, Checks, Dice
from tests.test_sound import some_clue

BEHIND = Rule(XO, ["x", "xo"], 1, "x")
PAIR = Book(XO, BEHIND, -BEHIND)


def line_by_hand(line):
    return "line " + line.alphabet.letters + "\ncells " + " ".join(cell.letters for cell in line)


def rule_by_hand(rule):
    ends = ("[ " if rule.left else "", " ]" if rule.right else "")
    cells = " ".join(cell.letters for cell in rule.pattern)
    return f"rule {ends[0]}{cells}{ends[1]} strike {rule.value} at {rule.at}"


def clue_by_hand(clue):
    rows = ["clue " + clue.alphabet.letters, "machine"]
    for row, is_told in zip(clue.steps, clue.told):
        rows.append(("yes " if is_told else "no ") + " ".join(map(str, row)))
    return "\n".join(rows)


class Writers(Checks, unittest.TestCase):

    def test_lines(self):
        dice = Dice(291)
        for values in (XO, OX, ABC, ABCD):
            for length in (1, 2, 3, 8, 30):
                line = dice.line(values, length)
                cells = line.cells
                text = write_line(line)
                self.exactly(text, line_by_hand(line))
                self.assertTrue(line.cells == cells and read_line(text) == line and read(text) == line)
                self.exactly(write_line(read_line(text)), text)
        self.exactly(write_line(line=Line(XO, ["o", "x", "o", "xo"])), "line xo\ncells o x o xo")
        self.exactly(len(write_line(Line.free(XO, 4001)).split("\n")[1].split(" ")), 4002)
        self.assertTrue(read_line(write_line(Line.free(XO, 4001))) == Line.free(XO, 4001))

    def test_books(self):
        dice = Dice(292)
        for values in (XO, OX, ABC, ABCD):
            for many in (0, 1, 2, 5, 12):
                book = dice.book(values, many)
                rules = book.rules
                text = write_book(book)
                self.exactly(text, "\n".join(["book " + values.letters, *map(rule_by_hand, rules)]))
                self.assertTrue(book.rules == rules and read_book(text) == book and read(text) == book)
                self.exactly(write_book(read_book(text)), text)
        self.exactly(write_book(book=PAIR).split("\n"), ["book xo", "rule x xo strike x at 1", "rule xo x strike x at 0"])
        self.exactly(write_book(Book(ABC)), "book abc")
        self.exactly(write_book(Book(XO, Rule(XO, ["xo"], 0, "o", left=True, right=True))), "book xo\nrule [ xo ] strike o at 0")
        rules = [dice.rule(ABCD, 4) for _ in range(60)]
        forty = Book.of(ABCD, [rule for k, rule in enumerate(rules) if rule not in rules[:k]][:40])
        self.exactly(len(forty), 40)
        self.assertTrue(read_book(write_book(forty)) == forty)

    def test_clues(self):
        dice = Dice(293)
        for values in (XO, OX, ABC, ABCD):
            clues = [Every(values), Never(values), Listed(values, ""), Few(values, values.letters[0], 60)]
            for clue in clues + [some_clue(values, dice) for _ in range(12)]:
                machine = clue.steps, clue.told
                text = write_clue(clue)
                self.exactly(text, clue_by_hand(clue))
                self.exactly((clue.steps, clue.told), machine)
                if len(clue) <= 12:
                    self.assertTrue(read_clue(text) == clue and read(text) == clue)
                    self.exactly(write_clue(read_clue(text)), text)
        apart = Neighbours(XO, "xo", "ox", "oo")
        self.exactly(write_clue(clue=apart).split("\n"), ["clue xo", "machine", "yes 1 0", "yes 2 0", "no 2 2"])
        self.exactly(write_clue(Never(ABC)), "clue abc\nmachine\nno 0 0 0")
        # Of the least machine, not of the one that was told.
        self.exactly(write_clue(Machine(XO, [[1, 1], [0, 0]], [True, True])), "clue xo\nmachine\nyes 0 0")
        self.exactly(write_clue(Runs(XO, "x", 2) & Ends(XO, "x", "xo")), clue_by_hand(Runs(XO, "x", 2) & Ends(XO, "x", "xo")))
        self.exactly(len(write_clue(Modulo(XO, "x", 60)).split("\n")), 62)

    def test_trails(self):
        dice = Dice(294)
        clashes = 0
        for values in (XO, ABC):
            for _ in range(40):
                book, line = dice.book(values, 4, 3), dice.line(values, 1 + dice.below(6))
                found = trail(book, line)
                clashes += found.left is None
                text = write_trail(values, found.done, found.left)
                rows = ["trail " + values.letters] + [f"strike {place} {number}" for place, number in found.done]
                rows.append("clash" if found.left is None else "left " + str(found.left))
                self.exactly(text, "\n".join(rows))
                for ask in (read_trail, read):
                    strikes, left = ask(text)
                    self.exactly(strikes, found.done)
                    self.assertTrue(left == found.left)
                self.exactly(write_trail(values, list(found.done), found.left), text)
                self.exactly(write_trail(values, *read_trail(text)), text)
        self.assertTrue(10 < clashes < 70, clashes)
        self.exactly(write_trail(values=XO, strikes=(), left=None), "trail xo\nclash")
        self.exactly(write_trail(XO, [], Line(XO, ["xo"])), "trail xo\nleft xo")
        left = Line(XO, ["o", "x", "o", "xo"])
        strikes = [(0, 1), (1, 0)]
        self.exactly(write_trail(XO, strikes, left).split("\n"), ["trail xo", "strike 0 1", "strike 1 0", "left o x o xo"])
        self.exactly([strikes, str(left)], [[(0, 1), (1, 0)], "o x o xo"])


if __name__ == "__main__":
    unittest.main()
