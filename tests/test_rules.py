import unittest

from linestrikes.errors import BadNames, BadRule, BadText, BadValues, Unlike
from linestrikes.lines import Line
from linestrikes.rules import Rule
from linestrikes.values import Cell, Values
from tests.support import ABC, ABCD, OX, XO, Checks, Dice, any_values, each_line
from tests.test_values import BAD_NAMES

AT = Values("at")


class Making(Checks, unittest.TestCase):

    def test_attributes(self):
        rule = Rule(XO, ["x", XO.full, Values("xo").cell("o")], 1, "o", left=True)
        self.assertIs(rule.alphabet, XO)
        self.assertIsInstance(rule.pattern, tuple)
        self.assertTrue(all(isinstance(cell, Cell) and cell.alphabet == XO for cell in rule.pattern))
        self.exactly([cell.letters for cell in rule.pattern], ["x", "xo", "o"])
        self.exactly([rule.at, rule.value, rule.left, rule.right, len(rule)], [1, "o", True, False, 3])
        other = Rule(values=XO, pattern=("ox",), at=0, value="x", left=False, right=True)
        self.exactly([other.at, other.value, other.left, other.right, len(other)], [0, "x", False, True, 1])
        plain = Rule(XO, ("x",), 0, "x")
        self.exactly([plain.left, plain.right, Rule.LONGEST], [False, False, 4])

    def test_bad_values(self):
        for thing in any_values():
            if not isinstance(thing, Values):
                error = self.raises(BadValues(thing), Rule, thing, None, None, None, left=None)
                self.assertIs(error.value, thing)

    def test_bad_patterns(self):
        wrong = [[], (), ["x"] * 5, ("x",) * 5, [""], ["x", ""], [XO.empty], ["xx"], ["a"], ["x", "xa"], [OX.full],
                 [Values("xoa").full], [None], [["x"]], [1], {"x": 1}, "xo", "x", XO.full, Line.free(XO, 2), ["x", 1]]
        for thing in any_values(ABC) + wrong:
            if isinstance(thing, (list, tuple)) and list(thing) in (["x"], ["x", "o"]):
                continue
            self.raises(BadRule("pattern"), Rule, XO, thing, None, None, left=None, right=None)
        self.exactly(len(Rule(XO, ["x"] * 4, 3, "x")), 4)

    def test_bad_places(self):
        for thing in any_values() + [3, -1, "0", True, False, [0]]:
            if type(thing) is int and 0 <= thing <= 2:
                continue
            self.raises(BadRule("at"), Rule, XO, ["x", "o", "xo"], thing, None, left=None, right=None)
        self.raises(BadRule("at"), Rule, XO, ["x"], 1, "x")

    def test_bad_letters(self):
        for thing in any_values() + ["a", "", "ox", "X", ["o"], XO.cell("o"), "x"]:
            self.raises(BadRule("value"), Rule, XO, ["x", "o", "xo"], 1, thing, left=None, right=None)

    def test_bad_ends(self):
        for thing in any_values() + [0, 1, None, "True", [True]]:
            if not isinstance(thing, bool):
                self.raises(BadRule("left"), Rule, XO, ["x"], 0, "x", left=thing, right=thing)
                self.raises(BadRule("right"), Rule, XO, ["x"], 0, "x", left=True, right=thing)

    def test_what_is_passed_stays(self):
        pattern = ["x", "xo"]
        rule = Rule(XO, pattern, 1, "x")
        pattern[0] = "o"
        pattern.append("x")
        self.exactly([str(rule), len(rule)], ["x xo strike x at 1", 2])
        self.exactly(pattern, ["o", "xo", "x"])

    def test_equality_looks_at_all_six(self):
        rule = Rule(XO, ["xo", "x"], 1, "x")
        self.exactly(rule == Rule(Values("xo"), (XO.full, "x"), 1, "x", left=False), True)
        others = [Rule(OX, ["xo", "x"], 1, "x"), Rule(Values("xoa"), ["xo", "x"], 1, "x"), Rule(XO, ["x", "x"], 1, "x"),
                  Rule(XO, ["xo", "x"], 0, "x"), Rule(XO, ["xo", "x"], 0, "o"), Rule(XO, ["xo", "x"], 1, "x", left=True),
                  Rule(XO, ["xo", "x"], 1, "x", right=True), Rule(XO, ["xo", "x", "xo"], 1, "x")]
        for k, one in enumerate(others):
            self.exactly([rule == one, one == rule, rule != one], [False, False, True])
            self.exactly([one == other for other in others], [k == j for j in range(len(others))])
        for thing in any_values(ABC) + [str(rule)]:
            self.exactly([rule == thing, thing == rule], [False, False])

    def test_mirrored(self):
        rule = Rule(ABC, ["a", "ab", "c"], 1, "b", left=True)
        self.assertTrue(-rule == Rule(ABC, ["c", "ab", "a"], 1, "b", right=True))
        rule = Rule(ABC, ["ab", "c"], 0, "b", left=True, right=True)
        self.assertTrue(-rule == Rule(ABC, ["c", "ab"], 1, "b", left=True, right=True))
        dice = Dice(31)
        for _ in range(100):
            rule = dice.rule(ABC)
            self.assertTrue(-(-rule) == rule)
            line = dice.line(ABC, 5)
            self.exactly([5 - len(rule) - place for place in (-rule).places(-line)][::-1], list(rule.places(line)))

    def test_renamed(self):
        rule = Rule(XO, ["x", "xo"], 1, "x", right=True)
        self.assertTrue(rule.renamed({"x": "b", "o": "a"}) == Rule(Values("ba"), ["b", "ab"], 1, "b", right=True))
        self.assertTrue(rule.renamed(names={"x": "o", "o": "x"}) == Rule(OX, ["o", "ox"], 1, "o", right=True))
        for thing in any_values() + BAD_NAMES:
            self.raises(BadNames(), rule.renamed, thing)


class Texts(Checks, unittest.TestCase):

    def test_each_for_the_other(self):
        dice = Dice(32)
        for values in (XO, OX, ABC, ABCD, AT, Values("ta"), Values("is")):
            for _ in range(150):
                rule = dice.rule(values)
                again = Rule.read(values, str(rule))
                self.assertTrue(again == rule)
                self.exactly(str(again), str(rule))

    def test_texts(self):
        for rule, text in ((Rule(XO, ["ox"], 0, "o"), "xo strike o at 0"),
                           (Rule(XO, ["x"], 0, "x", left=True, right=True), "[ x ] strike x at 0"),
                           (Rule(XO, ["x", "o", "xo", "x"], 2, "o", right=True), "x o xo x ] strike o at 2"),
                           (Rule(AT, ["at", "a"], 0, "t", left=True), "[ at a strike t at 0")):
            self.exactly(str(rule), text)
            self.assertTrue(Rule.read(values=rule.alphabet, text=text) == rule)

    def test_no_texts(self):
        for thing in any_values():
            if not isinstance(thing, str):
                self.raises(BadText(0, 0), Rule.read, XO, thing)

    def test_the_first_wrong_word(self):
        for text, word in (("", 0), ("x", 1), ("[", 1), ("[ x", 2), ("x ]", 2), ("x strike", 2), ("x strike x", 3),
                           ("x strike x at", 4), ("x strike x at 0 ", 5), ("x strike x at 0 0", 5), (" x", 0),
                           ("x  strike x at 0", 1), ("[ [ x strike x at 0", 1), ("x ] ] strike x at 0", 2),
                           ("] x strike x at 0", 0), ("[ ] strike x at 0", 1), ("strike x at 0", 0),
                           ("[ strike x at 0", 1), ("x [ strike x at 0", 1), ("x x x x x strike x at 0", 4),
                           ("x x x x ] x strike x at 0", 5), ("ox strike x at 0", 0), ("xx strike x at 0", 0),
                           ("a strike a at 0", 0), ("x strike o at 0", 2), ("x strike xo at 0", 2),
                           ("x strike x on 0", 3), ("x strike x at 1", 4), ("x strike x at 00", 4),
                           ("x strike x at -0", 4), ("x strike x at +0", 4), ("x o strike x at 1", 5),
                           ("x o strike o at 0", 5), ("x strike x at x", 4), ("x strike x at 0\n", 4),
                           ("x\no strike x at 0", 0), ("x Strike x at 0", 1), ("x . strike x at 0", 1),
                           ("x strike x at 0000000000", 4), ("rule x strike x at 0", 0), ("x strike at 0", 2),
                           ("x x strike x at 2", 5), ("xo xo strike o at 10", 5), ("x strike x at 1000000000", 4),
                           ("x strike  at 0", 2), ("[x strike x at 0", 0), ("x] strike x at 0", 0), ("xo" * 5000, 0)):
            self.raises(BadText(0, word), Rule.read, XO, text)

    def test_letters_that_spell_words_of_the_text(self):
        self.exactly(str(Rule.read(AT, "at at strike a at 1")), "at at strike a at 1")
        for text, word in (("at strike at at 0", 2), ("at at at 0", 3), ("at strike at 0", 2), ("ta strike a at 0", 0),
                           ("at at", 2), ("at at at at at", 4), ("a strike a at at", 4)):
            self.raises(BadText(0, word), Rule.read, AT, text)
        self.raises(BadText(0, 0), Rule.read, Values("stri"), "strike s at 0")

    def test_words_left_out_put_in_and_exchanged(self):
        full = "[ x xo ] strike x at 1".split(" ")
        for many in range(len(full)):
            self.raises(BadText(0, many), Rule.read, XO, " ".join(full[:many]) if many else "")
        for at in range(len(full) + 1):
            text = " ".join(full[:at] + ["no"] + full[at:])
            self.raises(BadText(0, at), Rule.read, XO, text)
        for at in range(len(full)):
            text = " ".join(full[:at] + ["no"] + full[at + 1:])
            self.raises(BadText(0, at), Rule.read, XO, text)


class Fitting(Checks, unittest.TestCase):

    def test_fits_hits_and_places(self):
        dice = Dice(33)
        for values in (XO, ABC, ABCD):
            for _ in range(150):
                rule, line = dice.rule(values), dice.line(values, 1 + dice.below(6))
                for place in range(-6, 8):
                    fits = self.fits_by_hand(rule, line, place)
                    hits = fits and rule.value in line[place + rule.at]
                    self.exactly([rule.fits(line, place), rule.hits(line, place)], [fits, hits])
                for place in (-10 ** 59, 10 ** 59, -len(line), len(line)):
                    self.exactly([rule.fits(line=line, place=place), rule.hits(line, place)], [False, False])
                hits = [place for place in range(len(line)) if rule.hits(line, place)]
                self.exactly(list(rule.places(line)), hits)

    def fits_by_hand(self, rule, line, place):
        cells = list(line)
        if place < 0 or place + len(rule) > len(cells) or (rule.left and place != 0):
            return False
        if rule.right and place + len(rule) != len(cells):
            return False
        return all(cells[place + k].within(rule.pattern[k]) for k in range(len(rule)))

    def test_all_lines_of_two_cells(self):
        for pattern in each_line(XO, 2):
            rule = Rule(XO, list(pattern), 0, pattern[0].letters[0])
            for line in each_line(XO, 2):
                self.exactly(rule.fits(line, 0), line.within(pattern))
                self.exactly([rule.fits(line, 1), rule.fits(line, -1)], [False, False])

    def test_ends(self):
        line = Line.free(XO, 3)
        for left, right, places in ((False, False, [0, 1, 2]), (True, False, [0]), (False, True, [2]), (True, True, [])):
            rule = Rule(XO, ["xo"], 0, "x", left=left, right=right)
            self.exactly(list(rule.places(line)), places)
            self.exactly([place for place in range(-3, 6) if rule.fits(line, place)], places)
        both = Rule(XO, ["xo"] * 3, 1, "o", left=True, right=True)
        self.exactly([list(both.places(line)), list(both.places(Line.free(XO, 4)))], [[0], []])

    def test_a_rule_that_fits_and_does_not_strike(self):
        rule, line = Rule(XO, ["xo"], 0, "x"), Line(XO, ["o", "x"])
        self.exactly([rule.fits(line, 0), rule.hits(line, 0), list(rule.places(line))], [True, False, [1]])

    def test_places_are_those_of_the_line_at_the_first_one(self):
        line, rule = Line.free(XO, 3), Rule(XO, ["xo"], 0, "x")
        places = rule.places(line)
        self.assertIs(iter(places), places)
        line[1] = "o"
        first = next(places)
        line[2] = "o"
        self.exactly([first, *places], [0, 2])
        self.exactly(str(line), "xo o o")

    def test_long_lines(self):
        line = Line.free(XO, 4001)
        self.exactly(len(list(Rule(XO, ["xo"] * 4, 0, "x").places(line))), 3998)
        self.exactly(Rule(XO, ["xo"] * 4, 0, "x", right=True).hits(line, 3997), True)

    def test_unlike_values(self):
        rule = Rule(XO, ["xo"], 0, "x")
        for line in (Line.free(OX, 2), Line.free(ABC, 2), Line.free(Values("xoa"), 1)):
            self.raises(Unlike("values"), rule.fits, line, 0)
            self.raises(Unlike("values"), rule.hits, line, -5)
            self.raises(Unlike("values"), lambda: next(rule.places(line)))


if __name__ == "__main__":
    unittest.main()
