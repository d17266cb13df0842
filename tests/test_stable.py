import itertools
import unittest

from linestrikes.books import Book
from linestrikes.errors import BadNumber, Clash, NothingTold, TooMany, Unlike
from linestrikes.lines import Line
from linestrikes.rules import Rule
from linestrikes.stable import join, stable_lines
from linestrikes.values import Values
from tests.slow import is_stable_by_hand
from tests.support import ABC, ABCD, OX, XO, Checks, Dice, any_values, each_line

PAIR = Book(XO, Rule(XO, ["x", "xo"], 1, "x"), Rule(XO, ["xo", "x"], 0, "x"))


def lines_within(line):
    """All lines within a line, by the numbers of their cells."""
    cells = [[one for one in line.alphabet.each_cell() if len(one) and one.within(cell)] for cell in line]
    return [Line(line.alphabet, some) for some in itertools.product(*cells)]


class StableLines(Checks, unittest.TestCase):

    def test_all_of_them_in_order(self):
        dice = Dice(71)
        many = 0
        for values, longest in ((XO, 6), (ABC, 4), (ABCD, 3)):
            for _ in range(40):
                book, line = dice.book(values, dice.below(5)), dice.line(values, 1 + dice.below(longest))
                kept = str(line)
                wanted = [one for one in lines_within(line) if is_stable_by_hand(book, one)]
                found = list(stable_lines(book, line))
                self.assertTrue(all(isinstance(one, Line) for one in found))
                self.exactly([str(one) for one in found], [str(one) for one in wanted])
                self.exactly(str(line), kept)
                many += len(found)
        self.assertTrue(many > 500)

    def test_left_is_the_join_of_all_stable_lines_within(self):
        dice = Dice(72)
        kinds = [0, 0]
        for _ in range(200):
            values = (XO, ABC)[dice.below(2)]
            book, line = dice.book(values, 4), dice.line(values, 1 + dice.below(4))
            stable = list(stable_lines(book, line))
            kinds[bool(stable)] += 1
            if stable:
                joined = join(stable)
                self.assertTrue(joined == book(line))
                self.exactly([book.is_stable(joined), str(stable[-1])], [True, str(joined)])
                some = join([stable[dice.below(len(stable))] for _ in range(3)])
                self.exactly(book.is_stable(some), True)
            else:
                with self.assertRaises(Clash):
                    book(line)
        self.assertTrue(min(kinds) > 20)

    def test_the_line_itself_and_no_rules(self):
        line = Line(XO, ["x", "xo"])
        self.exactly([str(one) for one in stable_lines(striker=Book(XO), line=line)], ["x x", "x o", "x xo"])
        self.exactly([str(one) for one in stable_lines(PAIR, line)], ["x o"])
        self.exactly(list(stable_lines(PAIR, Line(XO, ["x", "x"]))), [])
        found = list(stable_lines(Book(XO), line))[2]
        self.assertTrue(found == line and found is not line)

    def test_most(self):
        # 3 * 1 * 3 lines are within.
        line = Line(XO, ["xo", "x", "xo"])
        self.exactly(len(list(stable_lines(Book(XO), line, most=9))), 9)
        self.exactly(len(list(stable_lines(PAIR, line, most=9))), 1)
        self.raises(TooMany("lines", 8), lambda: list(stable_lines(Book(XO), line, most=8)))
        self.raises(TooMany("lines", 8), lambda: list(stable_lines(PAIR, line, most=8)))
        self.exactly(len(list(stable_lines(PAIR, Line(XO, ["x"]), most=1))), 1)
        self.raises(TooMany("lines", 1), lambda: list(stable_lines(PAIR, Line(XO, ["xo"]), most=1)))
        # 7 ** 4 are 2,401 lines, 15 ** 3 are 3,375, 3 ** 8 are 6,561.
        self.exactly(len(list(stable_lines(Book(ABC), Line.free(ABC, 4), most=2401))), 2401)
        self.raises(TooMany("lines", 2400), lambda: list(stable_lines(Book(ABC), Line.free(ABC, 4), most=2400)))
        self.exactly(len(list(stable_lines(Book(ABCD), Line.free(ABCD, 3)))), 3375)
        self.raises(TooMany("lines", 4000), lambda: list(stable_lines(PAIR, Line.free(XO, 8))))
        self.raises(TooMany("lines", 4000), lambda: list(stable_lines(PAIR, Line.free(XO, 30))))

    def test_bad_most(self):
        for most in any_values() + [0, -1, 4001, True, False, "5", [5], None, 5.0]:
            if type(most) is int and 1 <= most <= 4000:
                continue
            for line in (Line.free(XO, 2), Line.free(XO, 30)):
                self.raises(BadNumber("most"), lambda: list(stable_lines(PAIR, line, most=most)))
            self.raises(Unlike("values"), lambda: list(stable_lines(PAIR, Line.free(OX, 2), most=most)))
        self.exactly(len(list(stable_lines(PAIR, Line.free(XO, 2), most=4000))), 6)

    def test_errors_at_the_first_item(self):
        for line, most, error in ((Line.free(ABC, 2), 9, Unlike), (Line.free(XO, 2), 0, BadNumber),
                                  (Line.free(XO, 2), 8, TooMany)):
            with self.assertRaises(error):
                for _ in stable_lines(PAIR, line, most=most):
                    break
        self.raises(Unlike("values"), lambda: list(stable_lines(PAIR, Line.free(ABC, 30), most=1)))

    def test_changes_behind_the_first_item(self):
        line = Line.free(XO, 2)
        found = []
        for one in stable_lines(PAIR, line):
            if not found:
                line[0] = "o"
                line &= Line(XO, ["o", "o"])
            found.append(str(one))
            one[0] = one[0]
        self.exactly(found, ["x o", "o x", "o o", "o xo", "xo o", "xo xo"])

    def test_a_line_is_looked_at_when_the_first_item_is_asked_for(self):
        line = Line.free(XO, 2)
        asked = stable_lines(PAIR, line)
        line[0] = "x"
        self.exactly([str(one) for one in asked], ["x o"])

    def test_thirty_cells(self):
        line = Line(XO, ["xo"] * 3 + ["o"] * 24 + ["xo"] * 3)
        found = [str(one) for one in stable_lines(PAIR, line)]
        self.exactly(len(found), 14 * 14)
        self.exactly(found[0], " ".join("xox" + "o" * 24 + "xox"))
        self.exactly(found[-1], str(line))
        self.exactly(list(stable_lines(PAIR, Line(XO, ["x"] * 30))), [])


class Join(Checks, unittest.TestCase):

    def test_joins(self):
        dice = Dice(73)
        for values in (XO, ABC, ABCD):
            for _ in range(40):
                length = 1 + dice.below(30)
                lines = [dice.line(values, length) for _ in range(1 + dice.below(5))]
                kept = [str(line) for line in lines]
                wanted = ["".join(letter for letter in values.letters if any(letter in line[k] for line in lines))
                          for k in range(length)]
                for some in (lines, tuple(lines)):
                    joined = join(lines=some)
                    self.assertIsInstance(joined, Line)
                    self.exactly([cell.letters for cell in joined], wanted)
                    self.assertTrue(all(joined is not line for line in lines))
                self.exactly([str(line) for line in lines], kept)

    def test_a_new_line_and_the_list_stays(self):
        line = Line(XO, ["xo", "x"])
        lines = [line]
        joined = join(lines)
        self.assertTrue(joined == line and joined is not line)
        joined[0] = "x"
        self.exactly([str(line), len(lines)], ["xo x", 1])
        two = [line, line]
        self.exactly([str(join(two)), two[0] is line, two[1] is line], ["xo x", True, True])

    def test_long_lines(self):
        self.exactly(str(join([Line.sure(XO, "x" * 4001), Line.sure(XO, "xo" * 2000 + "o")]))[:9], "x xo x xo")

    def test_nothing(self):
        self.raises(NothingTold("lines"), join, [])
        self.raises(NothingTold("lines"), join, ())

    def test_unlike_lines(self):
        two, three, other = Line.free(XO, 2), Line.free(XO, 3), Line.free(Values("xoa"), 2)
        turned = Line.free(OX, 2)
        longer = Line.free(ABC, 3)
        for lines in ([two, other], [other, two], [two, two, turned], [two, longer], [longer, two], [two, three, other],
                      [two, other, three], [other, three, two], [three, two, two, turned]):
            self.raises(Unlike("values"), join, lines)
            self.raises(Unlike("values"), join, tuple(lines))
        for lines in ([two, three], [three, two], [two, two, three], [two, three, two]):
            self.raises(Unlike("length"), join, lines)


if __name__ == "__main__":
    unittest.main()
