import unittest

from linestrikes.check_supports import shows_barred, shows_left_by
from linestrikes.errors import Unlike
from linestrikes.kinds import Neighbours, Never, Runs
from linestrikes.lines import Line
from linestrikes.supports import barring, judged_left
from linestrikes.values import Values
from tests.slow import barred_as_told, left_as_told, marks_by_hand, sets_by_hand
from tests.support import ABC, OX, XO, Checks, Dice, any_values, exact, mutants

APART = Neighbours(XO, "xo", "ox", "oo")
TWO = Runs(XO, "x", 2)
LINE = Line(XO, ["xo", "x", "xo", "xo"])
SETS = ((0,), (0, 1), (1, 2), (2,), (2,))


class ShowsBarred(Checks, unittest.TestCase):

    def test_what_barring_tells(self):
        dice = Dice(91)
        many = 0
        for values in (XO, ABC):
            for _ in range(60):
                clue, _ = dice.machine(values, 5)
                line = dice.line(values, 1 + dice.below(5))
                for place, value in [(None, None)] + marks_by_hand(line):
                    found = barring(clue, line, place, value)
                    many += found is not None
                    told = sets_by_hand(clue, line, place, value)
                    self.exactly(shows_barred(clue, line, told, place, value), found is not None)
        self.assertTrue(many > 50)

    def test_changed_and_wider_sets(self):
        dice = Dice(92)
        answers = [0, 0]
        for _ in range(60):
            clue, _ = dice.machine(XO, 4)
            line = dice.line(XO, 1 + dice.below(3))
            marks = [(None, None)] + marks_by_hand(line)
            place, value = marks[dice.below(len(marks))]
            told = sets_by_hand(clue, line, place, value)
            wider = tuple(tuple(sorted({*row, *[k for k in range(len(clue)) if dice.below(2)]})) for row in told)
            for sets in [told, wider, *mutants(told), *mutants(wider)]:
                wanted = barred_as_told(clue, line, sets, place, value)
                self.exactly(shows_barred(clue, line, sets, place, value), wanted, sets)
                answers[wanted] += 1
        self.assertTrue(min(answers) > 30)

    def test_kinds_of_sets(self):
        self.exactly(shows_barred(clue=APART, line=LINE, sets=SETS, place=2, value="x"), True)
        wrong = [list(SETS), ((0,), [0, 1], (1, 2), (2,), (2,)), ((0,), (0, True), (1, 2), (2,), (2,)),
                 ((False,), (0, 1), (1, 2), (2,), (2,)), ((0,), (1, 0), (1, 2), (2,), (2,)), SETS[:4], SETS + ((2,),),
                 ((0,), (0, 1), (1, 2), (2,), (2, 3)), ((0,), (0, 1), (1, 2), (2,), (1, 2)), ((), (), (), (), ()),
                 ((1,), (2,), (2,), (2,), (2,)), ((0,), (0, 1), (1, 2), (2,), (2, 2)), ((0,), (0, 1), (2,), (2,), (2,)),
                 ((0,), (0, 1), (0, 1, 2), (2,), (2,)), ((-1, 0), (0, 1), (1, 2), (2,), (2,))]
        for sets in wrong:
            self.exactly(shows_barred(APART, LINE, sets, 2, "x"), False, sets)
        self.exactly(shows_barred(APART, LINE, ((0, 2), (0, 1, 2), (1, 2), (2,), (2,)), 2, "x"), True)
        for sets in any_values():
            self.exactly(shows_barred(APART, LINE, sets, 2, "x"), False)
            self.exactly(shows_barred(APART, LINE, sets), False)

    def test_places_and_values(self):
        for place in any_values() + [4, -1, -2, True, "2", (2,)]:
            self.exactly(shows_barred(APART, LINE, SETS, place, "x"), exact(place, 2))
        for value in any_values() + ["o", "q", "xo", ["x"], ("x",), XO.cell("x"), 0]:
            self.exactly(shows_barred(APART, LINE, SETS, 2, value), value == "x" and type(value) is str)
        self.exactly(shows_barred(APART, LINE, SETS, None, "x"), False)
        self.exactly(shows_barred(APART, LINE, SETS, 2, None), False)
        self.exactly(shows_barred(APART, LINE, SETS, value="x"), False)
        self.exactly(shows_barred(APART, LINE, SETS), False)
        # The cell 1 has no o.
        never = Never(XO)
        flat = ((0,),) * 5
        self.exactly([shows_barred(never, LINE, flat, 1, "o"), shows_barred(never, LINE, flat, 0, "o"),
                      shows_barred(never, LINE, flat), shows_barred(never, LINE, flat, 1, "x")], [False, True, True, True])
        # Sets that show that no right word fits, but just one of place and value.
        self.exactly([shows_barred(never, LINE, flat, None, "x"), shows_barred(never, LINE, flat, 0, None),
                      shows_barred(never, LINE, flat, value="o"), shows_barred(never, LINE, flat, place=0)], [False] * 4)

    def test_unlike_values_are_ahead(self):
        for line in (Line.free(OX, 4), Line.free(ABC, 4), Line.free(Values("xoa"), 1)):
            for sets in (SETS, None, ()):
                for mark in ((), (2, "x"), (None, "x"), ("q", 0)):
                    self.raises(Unlike("values"), shows_barred, APART, line, sets, *mark)


class ShowsLeftBy(Checks, unittest.TestCase):

    def test_what_judged_left_tells(self):
        dice = Dice(93)
        kinds = [0, 0]
        for values in (XO, ABC):
            for _ in range(80):
                clue, _ = dice.machine(values, 5)
                line = dice.line(values, 1 + dice.below(5))
                found = judged_left(clue, line)
                kinds[bool(found)] += 1
                self.exactly(shows_left_by(clue, line, found.line, found.shown, found.barred), True)
                self.exactly(shows_left_by(clue=clue, line=line, left=found.line, words=found.shown,
                                           barred=found.barred), True)
        self.assertTrue(min(kinds) > 10)

    def test_each_change(self):
        dice = Dice(94)
        answers = [0, 0]
        for _ in range(40):
            clue, _ = dice.machine(XO, 4)
            line = dice.line(XO, 1 + dice.below(3))
            found = judged_left(clue, line)
            for words in mutants(found.shown):
                wanted = left_as_told(clue, line, found.line, words, found.barred)
                self.exactly(shows_left_by(clue, line, found.line, words, found.barred), wanted, words)
                answers[wanted] += 1
            for barred in mutants(found.barred):
                wanted = left_as_told(clue, line, found.line, found.shown, barred)
                self.exactly(shows_left_by(clue, line, found.line, found.shown, barred), wanted, barred)
                answers[wanted] += 1
        self.assertTrue(min(answers) > 20)

    def test_another_left(self):
        found = judged_left(APART, LINE)
        for left in [None, LINE, Line(XO, ["o", "x", "o"]), Line(XO, ["o", "x", "o", "x"]), Line(XO, ["o", "o", "o", "xo"]),
                     Line(OX, ["o", "x", "o", "xo"]), Line.free(ABC, 4), "o x o xo", found.line.cells, -found.line,
                     *any_values(), *any_values(ABC)]:
            self.exactly(shows_left_by(APART, LINE, left, found.shown, found.barred), False)
        # Not within the line, though the words fit the line.
        sure = Line.sure(XO, "oxo")
        of_sure = judged_left(APART, sure)
        self.exactly(shows_left_by(APART, sure, Line(XO, ["o", "x", "xo"]), (*of_sure.shown, "oxo"), ()), False)
        self.exactly(shows_left_by(APART, sure, sure, of_sure.shown, ()), True)

    def test_words(self):
        found = judged_left(APART, LINE)
        words = found.shown
        self.exactly([len(words), sorted(set(words))], [5, ["oxoo", "oxox"]])
        for other in [words[::-1], words[1:], words + words[:1], list(words), (), words[:4] + ("oxox",),
                      words[:4] + ("xxoo",), words[:4] + ("oxo",), words[:4] + ("oxooo",), words[:4] + (None,),
                      words[:4] + (["o", "x", "o", "o"],), "oxoo", {}, words[:3] + words[4:] + words[3:4]]:
            self.exactly(shows_left_by(APART, LINE, found.line, other, found.barred), False, other)
        for other in any_values():
            self.exactly(shows_left_by(APART, LINE, found.line, other, found.barred), False)
            self.exactly(shows_left_by(APART, LINE, found.line, words, other), False)
            self.exactly(shows_left_by(APART, LINE, found.line, words[:4] + (other,), found.barred), False)
        # Any such words are let.
        self.exactly(shows_left_by(APART, LINE, found.line, ("oxox", "oxoo", "oxox", "oxox", "oxoo"), found.barred), True)

    def test_barred(self):
        found = judged_left(APART, LINE)
        barred = found.barred
        for other in [barred[::-1], barred[1:], barred + barred[:1], list(barred), (), (barred[0], None),
                      (barred[0], list(barred[1]))]:
            self.exactly(shows_left_by(APART, LINE, found.line, found.shown, other), False, other)

    def test_nothing_left(self):
        line = Line(XO, ["x"])
        sets = ((0,), (1,))
        self.exactly(shows_left_by(TWO, line, None, (), (sets,)), True)
        self.exactly(shows_left_by(TWO, line, None, (), (((0, 1), (1, 2, 3)),)), False)
        self.exactly(shows_left_by(TWO, line, None, (), (((0, 3), (1, 3)),)), True)
        for words, barred in (([], (sets,)), ((), [sets]), ((), ()), ((), (sets, sets)), (("x",), (sets,)), (None, (sets,)),
                              ((), sets), ((), None), ((), (None,))):
            self.exactly(shows_left_by(TWO, line, None, words, barred), False)
        self.exactly(shows_left_by(TWO, line, line, (), (sets,)), False)
        self.exactly(shows_left_by(TWO, line, False, (), (sets,)), False)
        self.exactly(shows_left_by(APART, LINE, None, (), (sets_by_hand(APART, LINE),)), False)

    def test_unlike_values_are_ahead(self):
        for line in (Line.free(OX, 4), Line.free(ABC, 4)):
            for left, words, barred in ((None, (), ()), (line, (), ()), (None, None, None)):
                self.raises(Unlike("values"), shows_left_by, APART, line, left, words, barred)


if __name__ == "__main__":
    unittest.main()
