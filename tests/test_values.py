import itertools
import unittest

from linestrikes.errors import BadCell, BadNames, BadNumber, BadValues, Unlike
from linestrikes.values import Cell, Values
from tests.support import ABC, ABCD, OX, XO, Checks, any_values

BAD_NAMES = [
    {}, {"x": "a"}, {"x": "a", "o": "a"}, {"x": "a", "o": "b", "z": "c"}, {"x": "a", "z": "b"}, {"x": "A", "o": "b"},
    {"x": "ab", "o": "c"}, {"x": "", "o": "c"}, {"x": 1, "o": "c"}, {"x": ["a"], "o": "c"}, {"x": None, "o": "b"},
    {"x": "a", "o": "a "}, {"x": "a", 1: "b"}, {("x",): "a", "o": "b"}, {"X": "a", "o": "b"}, {"x": {}, "o": {}},
    [("x", "a"), ("o", "b")], (("x", "a"), ("o", "b")), "xo", XO,
]


class ValuesTest(Checks, unittest.TestCase):

    def test_letters_length_and_membership(self):
        for letters in ("xo", "ox", "abc", "zyxw", "az"):
            values = Values(letters)
            self.exactly(values.letters, letters)
            self.exactly(len(values), len(letters))
            for letter in letters:
                self.exactly(letter in values, True)
        self.exactly(Values(letters="xo").letters, "xo")
        self.exactly(Values.MOST, 4)

    def test_membership_of_any_value(self):
        for thing in any_values() + ["xo", "ox", "X", "a", "", ["x"], ("x",), b"x"]:
            self.exactly(thing in XO, False, thing)

    def test_equality_looks_at_the_order(self):
        self.exactly(XO == Values("xo"), True)
        self.exactly(XO != Values("xo"), False)
        self.exactly(XO == OX, False)
        self.exactly(XO == Values("xoa"), False)
        for thing in any_values() + ["xo", XO.full]:
            if not isinstance(thing, Values):
                self.exactly(XO == thing, False)
                self.exactly(thing == XO, False)

    def test_bad_values_come_with_the_value(self):
        wrong = ["", "x", "xx", "xox", "abcde", "Xo", "x1", "x ", "x\n", "x.", ["x", "o"], ("x", "o"), {"x": 1, "o": 2}]
        for thing in any_values() + wrong:
            if thing in ("zz", "xo"):
                continue
            error = self.raises(BadValues(thing), Values, thing)
            self.assertIs(error.value, thing)
        self.raises(BadValues("zz"), Values, "zz")

    def test_full_empty_and_each_cell(self):
        for values in (XO, ABC, ABCD):
            many = 2 ** len(values)
            self.exactly(values.full.letters, values.letters)
            self.exactly(values.empty.letters, "")
            cells = list(values.each_cell())
            self.exactly([cell.number for cell in cells], list(range(many)))
            self.assertTrue(all(isinstance(cell, Cell) for cell in cells))
            generator = values.each_cell()
            self.assertIs(iter(generator), generator)
            self.assertTrue(next(generator) == values.empty)

    def test_cell_takes_letters_in_any_order(self):
        for many in range(4):
            for letters in itertools.permutations("abc", many):
                cell = ABC.cell("".join(letters))
                self.exactly(cell.letters, "".join(sorted(letters)))
                self.exactly(cell.number, sum(2 ** "abc".index(letter) for letter in letters))
        self.exactly(OX.cell("xo").letters, "ox")
        self.exactly(XO.cell(letters="").letters, "")
        self.exactly(OX.cell("x").number, 2)

    def test_bad_cells_come_with_the_value(self):
        right = ("", "x", "o", "xo", "ox")
        for thing in any_values() + ["xx", "oxo", "xa", "X", "x o", ".", "x\n", ["x"], ("x",), XO.cell("x"), XO, 1]:
            if isinstance(thing, str) and thing in right:
                continue
            error = self.raises(BadCell(thing), XO.cell, thing)
            self.assertIs(error.value, thing)

    def test_numbered(self):
        for values in (XO, ABC, ABCD):
            for number in range(2 ** len(values)):
                self.exactly(values.numbered(number).number, number)
                wanted = "".join(letter for k, letter in enumerate(values.letters) if number & 2 ** k)
                self.exactly(values.numbered(number).letters, wanted)
        self.exactly(XO.numbered(number=3).letters, "xo")

    def test_bad_numbers(self):
        for thing in any_values() + [4, -1, 16, "1", [1], True, False, 1.0]:
            if type(thing) is int and 0 <= thing <= 3:
                continue
            self.raises(BadNumber("number"), XO.numbered, thing)
        self.raises(BadNumber("number"), ABCD.numbered, 16)

    def test_renamed(self):
        self.assertTrue(XO.renamed({"x": "a", "o": "b"}) == Values("ab"))
        self.assertTrue(XO.renamed({"o": "x", "x": "o"}) == OX)
        self.assertTrue(XO.renamed(names={"o": "o", "x": "x"}) == XO)
        self.assertTrue(ABCD.renamed({"d": "a", "c": "z", "b": "y", "a": "b"}) == Values("byza"))
        self.exactly(XO.letters, "xo")

    def test_bad_names(self):
        for thing in any_values() + BAD_NAMES:
            self.raises(BadNames(), XO.renamed, thing)


class CellTest(Checks, unittest.TestCase):

    def test_what_a_cell_tells(self):
        for values in (XO, ABC, ABCD):
            for cell in values.each_cell():
                self.assertIs(cell.alphabet, values)
                self.exactly(cell.is_sure, len(cell.letters) == 1)
                self.exactly(len(cell), len(cell.letters))
                self.exactly(bool(cell), cell.number != 0)
                self.exactly(list(cell), list(cell.letters))
                self.exactly(str(cell), cell.letters if cell.letters else ".")
                for letter in values.letters:
                    self.exactly(letter in cell, letter in cell.letters)

    def test_membership_of_any_value(self):
        for thing in any_values() + ["xo", "", "a", ["x"]]:
            self.exactly(thing in XO.full, False)

    def test_equality(self):
        for one in ABC.each_cell():
            for other in Values("abc").each_cell():
                self.exactly(one == other, one.number == other.number)
                self.exactly(one != other, one.number != other.number)
        for one in XO.each_cell():
            for other in OX.each_cell():
                self.exactly(one == other, False)
            for other in Values("xoa").each_cell():
                self.exactly(one == other, False)
            for thing in any_values(ABC) + [one.letters, one.number, {one.letters: 1}]:
                self.exactly(one == thing, False)
                self.exactly(thing == one, False)

    def test_signs(self):
        for values in (XO, ABC, ABCD):
            for one in values.each_cell():
                rest = ~one
                self.exactly([letter for letter in values.letters if letter not in one], list(rest))
                for other in Values(values.letters).each_cell():
                    self.look_at_signs(one, other)

    def look_at_signs(self, one, other):
        mine, their = set(one.letters), set(other.letters)
        for cell, wanted in ((one & other, mine & their), (one | other, mine | their),
                             (one - other, mine - their), (one ^ other, mine ^ their)):
            self.exactly(cell.letters, "".join(letter for letter in one.alphabet.letters if letter in wanted))
            self.assertTrue(cell.alphabet == one.alphabet)
            self.assertIsInstance(cell, Cell)
        self.exactly(one.within(other), mine <= their)

    def test_in_place_signs_bind_the_name_alone(self):
        for sign, wanted in (("&", "b"), ("|", "abc"), ("-", "a"), ("^", "ac")):
            one = cell = ABC.cell("ab")
            if sign == "&":
                cell &= ABC.cell("bc")
            elif sign == "|":
                cell |= ABC.cell("bc")
            elif sign == "-":
                cell -= ABC.cell("bc")
            else:
                cell ^= ABC.cell("bc")
            self.exactly([cell.letters, one.letters, one.number], [wanted, "ab", 3])

    def test_unlike_values(self):
        for values in (OX, ABC, Values("xoa")):
            for sign in (lambda a, b: a & b, lambda a, b: a | b, lambda a, b: a - b, lambda a, b: a ^ b,
                         lambda a, b: a.within(b)):
                for other in values.each_cell():
                    self.raises(Unlike("values"), sign, XO.full, other)
                    self.raises(Unlike("values"), sign, XO.empty, other)

    def test_unlike_values_in_place(self):
        cell = XO.full
        with self.assertRaises(Unlike):
            cell &= OX.full
        with self.assertRaises(Unlike):
            cell -= OX.full
        with self.assertRaises(Unlike):
            cell |= OX.full
        with self.assertRaises(Unlike):
            cell ^= OX.full
        self.assertTrue(cell == XO.full)


if __name__ == "__main__":
    unittest.main()
