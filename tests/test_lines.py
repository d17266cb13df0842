import unittest

from linestrikes.errors import (BadCell, BadLine, BadNames, BadNumber, BadText, BadWord, Clash, NoCell, NoRule, Unlike)
from linestrikes.lines import Line, Narrower
from linestrikes.values import Cell, Values
from tests.support import ABC, ABCD, OX, XO, Checks, any_values, each_line, each_text
from tests.test_values import BAD_NAMES


class Stubborn(Narrower):
    """A narrower that stops halfway with an error."""

    def narrowed(self, line):
        line[0] = "x"
        raise NoRule(7)


class Firm(Narrower):
    """A narrower that leaves x alone in the first cell."""

    def narrowed(self, line):
        line[0] = "x"


class Making(Checks, unittest.TestCase):

    def test_cells_and_strings(self):
        other = Values("xo")
        for row in (["xo", "x", "ox"], [XO.full, XO.cell("x"), other.full], ("xo", other.cell("x"), XO.full)):
            line = Line(XO, row)
            self.exactly([cell.letters for cell in line], ["xo", "x", "xo"])
            self.assertTrue(all(isinstance(cell, Cell) and cell.alphabet == XO for cell in line.cells))
        self.exactly(str(Line(values=XO, cells=["x"])), "x")
        self.exactly(Line.LONGEST, 4001)
        self.assertTrue(issubclass(Line, Narrower))

    def test_what_is_no_row(self):
        for thing in any_values():
            if isinstance(thing, (list, tuple)) and 1 <= len(thing) <= 4001:
                continue
            self.raises(BadLine(None), Line, XO, thing)
        self.raises(BadLine(None), Line, XO, ["x"] * 4002)
        self.raises(BadLine(None), Line, XO, ("x",) * 4002)
        self.raises(BadLine(None), Line, XO, [None] * 4002)
        self.raises(BadLine(None), Line, XO, "xo")
        self.raises(BadLine(None), Line, XO, Line.free(XO, 2))
        self.exactly(len(Line(XO, ["x"] * 4001)), 4001)
        self.exactly(len(Line(XO, (XO.full,) * 4001)), 4001)

    def test_the_first_wrong_item(self):
        wrong = [thing for thing in any_values(ABC) if thing not in ("x",)]
        for thing in wrong + ["", "xx", "a", "xa", XO.empty, OX.full, OX.cell("x"), Values("xoa").cell("x"), ["x"], 1]:
            self.raises(BadLine(0), Line, XO, [thing])
            self.raises(BadLine(1), Line, XO, ("xo", thing, thing))
            self.raises(BadLine(2), Line, XO, [XO.full, "o", thing, "x"])
        self.raises(BadLine(4000), Line, XO, ["x"] * 4000 + [""])

    def test_free(self):
        for many in (1, 2, 30, 4001):
            line = Line.free(XO, many)
            self.exactly([len(line), line.many], [many, 2 ** many])
        self.exactly(str(Line.free(values=ABC, many=2)), "abc abc")
        for thing in any_values() + [0, -1, 4002, True, "3", [3], 3.0]:
            if type(thing) is int and 1 <= thing <= 4001:
                continue
            self.raises(BadNumber("many"), Line.free, XO, thing)

    def test_sure(self):
        for word in each_text(ABC, 3, 1):
            line = Line.sure(ABC, word)
            self.exactly([cell.letters for cell in line], list(word))
            self.exactly(line.solution, word)
        self.exactly(len(Line.sure(XO, "xo" * 2000 + "x")), 4001)
        self.exactly(Line.sure(values=XO, word="x").solution, "x")

    def test_no_word(self):
        for thing in any_values():
            if not isinstance(thing, str) or thing == "":
                self.raises(BadWord(0), Line.sure, XO, thing)
        for word, at in (("a", 0), ("xa", 1), ("xoX", 2), ("x o", 1), ("xo\n", 2), ("x" * 4000 + "a", 4000),
                         ("x" * 4002, 4001), ("x" * 4001 + "a", 4001), ("x" * 5000 + "a", 4001), ("-", 0),
                         ("x" * 20000, 4001), ("xoaa", 2), ("x" * 3999 + "a" + "x" * 5000, 3999)):
            self.raises(BadWord(at), Line.sure, XO, word)

    def test_read(self):
        for line in each_line(ABC, 2):
            self.assertTrue(Line.read(ABC, str(line)) == line)
        self.assertTrue(Line.read(values=XO, text="xo x") == Line(XO, ["xo", "x"]))
        self.exactly(len(Line.read(XO, " ".join(["xo"] * 4001))), 4001)
        self.exactly(str(Line.read(OX, "ox x o")), "ox x o")

    def test_bad_texts(self):
        for thing in any_values():
            if not isinstance(thing, str):
                self.raises(BadText(0, 0), Line.read, XO, thing)
        for text, word in (("", 0), (" ", 0), (" x", 0), ("x ", 1), ("x  o", 1), ("ox", 0), ("xo ox", 1), ("xx", 0),
                           ("x a", 1), ("x .", 1), ("x\no", 0), ("x o\n", 1), ("x\n", 0), ("\nx", 0), ("x X", 1),
                           ("x - o", 1), ("xo xo xox", 2), ("[ x", 0), ("line", 0)):
            self.raises(BadText(0, word), Line.read, XO, text)
        self.raises(BadText(0, 4001), Line.read, XO, " ".join(["x"] * 4002))
        self.raises(BadText(0, 4001), Line.read, XO, " ".join(["x"] * 4001) + " ")
        self.raises(BadText(0, 4000), Line.read, XO, " ".join(["x"] * 4000) + " xx x x")
        self.raises(BadText(0, 3), Line.read, XO, " ".join(["x"] * 3 + ["q"] + ["x"] * 5000))

    def test_what_is_passed_stays(self):
        row = ["xo", "x", XO.full]
        line = Line(XO, row)
        line[0] = "o"
        self.exactly(row[:2], ["xo", "x"])
        row[1] = "o"
        row.append("x")
        self.exactly(str(line), "o x xo")


class Reading(Checks, unittest.TestCase):

    def test_properties(self):
        for values, length in ((XO, 4), (ABC, 2)):
            for line in each_line(values, length):
                words = [word for word in each_text(values, length, length)
                         if all(letter in cell.letters for letter, cell in zip(word, line.cells))]
                self.exactly(line.many, len(words))
                self.exactly(list(line.words()), words)
                self.exactly(line.solution, words[0] if len(words) == 1 else None)
                self.exactly(line.open_places, tuple(k for k, cell in enumerate(line) if len(cell) > 1))
                self.exactly(str(line), " ".join(cell.letters for cell in line.cells))
                for word in each_text(values, length + 1):
                    self.exactly(word in line, word in words)
        self.assertTrue(Line.free(XO, 2).alphabet == XO)
        self.exactly(Line.free(XO, 30).many, 2 ** 30)
        self.exactly(Line.free(ABCD, 4001).many, 4 ** 4001)
        self.assertIsInstance(Line.free(XO, 2).cells, tuple)

    def test_index(self):
        line = Line(XO, ["xo", "x", "o"])
        self.exactly([line[0].letters, line[1].letters, line[2].letters], ["xo", "x", "o"])
        for thing in any_values() + [3, -1, -3, True, False, "0", None, 0.0]:
            if type(thing) is int and 0 <= thing <= 2:
                continue
            self.raises(NoCell(thing), lambda: line[thing])
        self.raises(NoCell(False), lambda: line[False])

    def test_membership_of_any_value(self):
        line = Line.free(XO, 2)
        for thing in any_values() + [["x", "o"], ("x", "o"), "x", "xox", "xa", "", line]:
            self.exactly(thing in line, False)
        self.exactly("ox" in line, True)

    def test_the_first_words_of_long_lines(self):
        words = Line.free(XO, 30).words()
        self.assertIs(iter(words), words)
        some = [next(words) for _ in range(5)]
        self.exactly(some, ["x" * 27 + tail for tail in ("xxx", "xxo", "xox", "xoo", "oxx")])
        words = Line.free(OX, 4001).words()
        self.exactly([next(words), next(words)], ["o" * 4001, "o" * 4000 + "x"])

    def test_words_are_those_of_the_line_at_the_first_one(self):
        line = Line.free(XO, 2)
        words = line.words()
        line[0] = "o"
        first = next(words)
        line[1] = "x"
        self.exactly([first, *words], ["ox", "oo"])

    def test_equality(self):
        lines = list(each_line(XO, 1)) + list(each_line(XO, 2)) + list(each_line(OX, 2)) + list(each_line(ABC, 1))
        for k, one in enumerate(lines):
            for j, other in enumerate(lines):
                self.exactly(one == other, k == j)
            self.exactly(one == one.copy(), True)
            self.exactly(one != one.copy(), False)
        self.exactly(Line(XO, ["x"]) == Line(Values("xo"), ["x"]), True)
        for thing in any_values(ABC) + ["xo", ["xo"], (XO.full,), XO.full]:
            self.exactly(Line(XO, ["xo"]) == thing, False)
            self.exactly(thing == Line(XO, ["xo"]), False)

    def test_iteration(self):
        line = Line(XO, ["xo", "x"])
        self.exactly([cell.letters for cell in line], ["xo", "x"])
        self.assertTrue(tuple(line) == line.cells)


class Setting(Checks, unittest.TestCase):

    def test_a_cell_is_narrowed(self):
        for mine in XO.each_cell():
            for their in XO.each_cell():
                for cell in (their, their.letters, Values("xo").numbered(their.number)):
                    if len(mine):
                        self.set_cell(mine, cell, mine & their)

    def set_cell(self, mine, cell, both):
        line = Line(XO, ["xo", mine, "o"])
        same = line
        if len(both):
            line[1] = cell
            self.exactly(str(same), f"xo {both} o")
        else:
            self.raises(Clash(1), same.__setitem__, 1, cell)
            self.exactly(str(same), f"xo {mine} o")

    def test_no_cell_is_ahead_of_bad_cell_is_ahead_of_clash(self):
        line = Line(XO, ["x", "xo"])
        for at in any_values() + [2, -1, True]:
            if type(at) is int and 0 <= at <= 1:
                continue
            for cell in ("xx", "", "o", "x", None, OX.full):
                self.raises(NoCell(at), line.__setitem__, at, cell)
        for cell in any_values(ABC) + ["xx", "a", OX.full, OX.cell("x"), OX.empty, Values("xoa").full, ["x"], 1]:
            if not isinstance(cell, str) or cell not in ("", "x", "o", "xo", "ox"):
                self.raises(BadCell(cell), line.__setitem__, 0, cell)
        self.raises(Clash(0), line.__setitem__, 0, "o")
        self.raises(Clash(1), line.__setitem__, 1, "")
        self.raises(Clash(0), line.__setitem__, 0, XO.empty)
        self.exactly(str(line), "x xo")

    def test_a_cell_that_was_taken_out_stays(self):
        line = Line.free(XO, 2)
        cell, cells = line[0], line.cells
        line[0] = "x"
        self.exactly([cell.letters, cells[0].letters, line[0].letters], ["xo", "xo", "x"])


class Joining(Checks, unittest.TestCase):

    def test_signs_and_within(self):
        lines = list(each_line(XO, 2)) + list(each_line(ABC, 1))
        for one in lines:
            for other in lines:
                if one.alphabet == other.alphabet:
                    self.look_at(one, other)

    def look_at(self, one, other):
        kept = (str(one), str(other))
        both = [mine & their for mine, their in zip(one, other)]
        either = [mine | their for mine, their in zip(one, other)]
        self.exactly(str(one | other), " ".join(str(cell) for cell in either))
        self.exactly(one.within(other), all(mine.within(their) for mine, their in zip(one, other)))
        empty = [k for k, cell in enumerate(both) if not len(cell)]
        target = one.copy()
        name = target
        if empty:
            self.raises(Clash(empty[0]), lambda: one & other)
            self.raises(Clash(empty[0]), other.narrowed, target)
            with self.assertRaises(Clash) as caught:
                target &= other
            self.exactly(caught.exception.place, empty[0])
            self.assertTrue(target is name and target == one)
        else:
            wanted = " ".join(str(cell) for cell in both)
            self.exactly(str(one & other), wanted)
            target &= other
            self.assertTrue(target is name)
            self.exactly(str(target), wanted)
            second = one.copy()
            self.exactly(other.narrowed(line=second), None)
            self.exactly(str(second), wanted)
        self.exactly((str(one), str(other)), kept)

    def test_results_are_new_lines(self):
        line = Line.free(XO, 2)
        for new in (line & line, line | line, -line, line.copy(), line.renamed({"x": "x", "o": "o"})):
            self.assertTrue(new == line and new is not line)
            new[0] = "x"
            self.exactly(str(line), "xo xo")

    def test_the_order_of_errors(self):
        for ask in (lambda a, b: a & b, lambda a, b: a | b, lambda a, b: a.within(b), lambda a, b: b.narrowed(a)):
            line = Line(XO, ["x", "xo"])
            self.raises(Unlike("values"), ask, line, Line(OX, ["o"]))
            self.raises(Unlike("values"), ask, line, Line(ABC, ["a", "a"]))
            self.raises(Unlike("length"), ask, line, Line(XO, ["o"]))
            self.raises(Unlike("length"), ask, line, Line(XO, ["o", "x", "x"]))
        self.raises(Clash(0), lambda: Line(XO, ["x", "x"]) & Line(XO, ["o", "o"]))
        self.raises(Clash(1), lambda: Line(XO, ["x", "x"]) & Line(XO, ["xo", "o"]))

    def test_in_place_errors_leave_line_and_name(self):
        line = name = Line(XO, ["xo", "x"])
        for other, wanted in ((Line(OX, ["o", "o"]), Unlike("values")), (Line(XO, ["o"]), Unlike("length")),
                              (Line(XO, ["o", "o"]), Clash(1))):
            with self.assertRaises(type(wanted)) as caught:
                line &= other
            self.exactly(vars(caught.exception), vars(wanted))
            self.assertTrue(line is name)
            self.exactly(str(line), "xo x")

    def test_any_narrower(self):
        line = name = Line(XO, ["xo", "x"])
        with self.assertRaises(NoRule):
            line &= Stubborn()
        self.assertTrue(line is name)
        self.exactly(str(line), "xo x")
        line &= Firm()
        self.assertTrue(line is name)
        self.exactly(str(line), "x x")
        line &= line
        self.exactly(str(name), "x x")
        self.raises(NotImplementedError("each kind of narrower has its own way"), Narrower().narrowed, line)

    def test_mirrored_copied_renamed(self):
        line = Line(ABC, ["ab", "c", "abc"])
        self.exactly([str(-line), str(line.copy()), str(line)], ["abc c ab", "ab c abc", "ab c abc"])
        other = line.renamed({"a": "c", "b": "z", "c": "a"})
        self.assertTrue(other == Line(Values("cza"), ["cz", "a", "cza"]))
        self.exactly(str(line.renamed(names={"a": "a", "b": "c", "c": "b"})), "ac b acb")
        for thing in any_values() + BAD_NAMES:
            self.raises(BadNames(), Line(XO, ["x"]).renamed, thing)


class Guessing(Checks, unittest.TestCase):

    def test_behind_the_block_the_line_is_as_it_was(self):
        line = Line(XO, ["xo", "xo", "x"])
        with line.guess() as same:
            self.assertIs(same, line)
            line[0] = "x"
            same &= Line(XO, ["x", "o", "x"])
            self.exactly(str(line), "x o x")
        self.exactly(str(line), "xo xo x")

    def test_nested_blocks(self):
        line = Line.free(XO, 3)
        line[2] = "o"
        with line.guess():
            line[0] = "x"
            with line.guess() as same:
                same[1] = "x"
                with same.guess():
                    self.raises(Clash(0), same.__setitem__, 0, "o")
                    self.exactly(str(line), "x x o")
                self.exactly(str(line), "x x o")
            self.exactly(str(line), "x xo o")
            line[1] = "o"
            self.exactly(str(line), "x o o")
        self.exactly(str(line), "xo xo o")

    def test_an_error_goes_on(self):
        line = Line.free(XO, 2)
        with self.assertRaises(NoRule) as caught:
            with line.guess():
                line[0] = "x"
                with line.guess():
                    line[1] = "o"
                    raise NoRule(3)
        self.exactly(caught.exception.rule, 3)
        self.exactly(str(line), "xo xo")
        with self.assertRaises(Clash):
            with line.guess():
                line[1] = "o"
                line[1] = "x"
        self.exactly(str(line), "xo xo")

    def test_the_block_begins_where_it_is_entered(self):
        line = Line.free(XO, 2)
        block = line.guess()
        line[0] = "x"
        with block:
            line[1] = "x"
        self.exactly(str(line), "x xo")

    def test_guessed(self):
        line = Line.free(XO, 2)

        def ask(same):
            self.assertIs(same, line)
            same[0] = "o"
            inner = same.guessed(lambda deep: (deep.__setitem__(1, "o"), str(deep))[1])
            return [inner, str(same)]

        self.exactly(line.guessed(ask), ["o o", "o xo"])
        self.exactly(line.guessed(ask=str), "xo xo")
        self.exactly(str(line), "xo xo")
        self.raises(NoCell(5), line.guessed, lambda same: (same.__setitem__(0, "x"), same[5]))
        self.exactly(str(line), "xo xo")


if __name__ == "__main__":
    unittest.main()
