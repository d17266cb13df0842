import unittest

from linestrikes.clues import Machine
from linestrikes.errors import BadCell, BadNumber, Unlike
from linestrikes.kinds import Every, Few, Listed, Modulo, Neighbours, Never, Runs
from linestrikes.lines import Line
from linestrikes.supports import Left, barring, count_words, judged_left, left_by, right_words
from linestrikes.values import Values
from tests.slow import marks_by_hand, right_words_by_hand, sets_by_hand
from tests.support import ABC, ABCD, OX, XO, Checks, Dice, any_values

APART = Neighbours(XO, "xo", "ox", "oo")
TWO = Runs(XO, "x", 2)
LINE = Line(XO, ["xo", "x", "xo", "xo"])


def some_cases(seed, many):
    dice = Dice(seed)
    for values, longest in ((XO, 7), (ABC, 5), (ABCD, 4)):
        for _ in range(many):
            clue, _ = dice.machine(values, 6)
            yield clue, dice.line(values, 1 + dice.below(longest))


def left_by_hand(clue, line):
    """The texts of the cells that the right words leave, None without such words."""
    words = right_words_by_hand(clue, line)
    if not words:
        return None
    return ["".join(letter for letter in line.alphabet.letters if any(word[k] == letter for word in words))
            for k in range(len(line))]


class Words(Checks, unittest.TestCase):

    def test_all_right_words_in_order(self):
        for clue, line in some_cases(81, 60):
            kept = str(line)
            wanted = right_words_by_hand(clue, line)
            self.exactly(list(right_words(clue, line)), wanted)
            self.exactly(count_words(clue, line), len(wanted))
            self.exactly(str(line), kept)

    def test_order_is_that_of_the_values(self):
        self.exactly(list(right_words(clue=Every(OX), line=Line.free(OX, 2))), ["oo", "ox", "xo", "xx"])
        self.exactly(list(right_words(Every(XO), Line.free(XO, 2))), ["xx", "xo", "ox", "oo"])
        self.exactly(count_words(clue=APART, line=LINE), 2)

    def test_thirty_open_cells(self):
        line = Line.free(XO, 30)
        self.exactly(count_words(Every(XO), line), 2 ** 30)
        self.exactly(count_words(APART, line), 2178309)
        self.exactly(count_words(Every(ABCD), Line.free(ABCD, 30)), 4 ** 30)
        first = []
        for word in right_words(Every(XO), line):
            first.append(word)
            if len(first) == 3:
                break
        self.exactly(first, ["x" * 30, "x" * 29 + "o", "x" * 28 + "ox"])
        for word in right_words(APART, line):
            self.exactly(word, "xo" * 15)
            break
        # Right words of which the first one comes late: the last letters tell all.
        for word in right_words(Modulo(ABCD, "d", 30, 29), Line.free(ABCD, 30)):
            self.exactly(word, "a" + "d" * 29)
            break

    def test_words_are_told_of_the_line_at_the_first_one(self):
        line = Line.free(XO, 3)
        asked = right_words(APART, line)
        line[1] = "x"
        found = []
        for word in asked:
            if not found:
                line[0] = "o"
                line[2] = "x" if "x" in line[2] else "o"
            found.append(word)
        self.exactly(found, ["oxo"])
        line = Line.free(XO, 2)
        found = []
        for word in right_words(Every(XO), line):
            if not found:
                line[0] = "x"
            found.append(word)
        self.exactly(found, ["xx", "xo", "ox", "oo"])

    def test_no_words(self):
        self.exactly([count_words(Never(XO), LINE), list(right_words(Never(XO), LINE))], [0, []])
        self.exactly([count_words(TWO, Line.sure(XO, "xox")), list(right_words(TWO, Line.sure(XO, "x")))], [0, []])
        self.exactly([count_words(Listed(XO, ""), Line.sure(XO, "x"))], [0])

    def test_unlike_values(self):
        for line in (Line.free(OX, 2), Line.free(ABC, 2), Line.free(Values("xoa"), 30)):
            self.raises(Unlike("values"), count_words, APART, line)
            self.raises(Unlike("values"), lambda: list(right_words(APART, line)))
            self.raises(Unlike("values"), left_by, APART, line)
            self.raises(Unlike("values"), judged_left, APART, line)
            for place, value in ((None, None), (0, "x"), (9, "x"), (None, "x"), (0, "q"), ("x", [])):
                self.raises(Unlike("values"), barring, APART, line, place, value)


class LeftBy(Checks, unittest.TestCase):

    def test_what_right_words_leave(self):
        kinds = [0, 0]
        for clue, line in some_cases(82, 80):
            kept = str(line)
            wanted = left_by_hand(clue, line)
            found = left_by(clue, line)
            kinds[found is None] += 1
            if wanted is None:
                self.exactly(found, None)
            else:
                self.assertIsInstance(found, Line)
                self.exactly([cell.letters for cell in found], wanted)
                self.assertTrue(found is not line)
            self.exactly(str(line), kept)
        self.assertTrue(min(kinds) > 10)

    def test_a_new_line(self):
        line = Line.sure(XO, "xox")
        found = left_by(clue=APART, line=line)
        self.assertTrue(found == line and found is not line)
        self.exactly([str(left_by(APART, LINE)), left_by(TWO, Line(XO, ["x"]))], ["o x o xo", None])
        self.exactly(str(left_by(Runs(XO, "x", 20), Line.free(XO, 30)))[:40], " ".join(["xo"] * 10 + ["x"] * 10)[:40])


class Barring(Checks, unittest.TestCase):

    def test_with_and_without_a_mark(self):
        kinds = [0, 0]
        for clue, line in some_cases(83, 40):
            kept = str(line)
            words = right_words_by_hand(clue, line)
            self.exactly(barring(clue, line), None if words else sets_by_hand(clue, line))
            for place, value in marks_by_hand(line):
                is_there = any(word[place] == value for word in words)
                wanted = None if is_there else sets_by_hand(clue, line, place, value)
                self.exactly(barring(clue, line, place, value), wanted)
                self.exactly(barring(clue=clue, line=line, value=value, place=place), wanted)
                kinds[is_there] += 1
            self.exactly(str(line), kept)
        self.assertTrue(min(kinds) > 50)

    def test_just_the_states_that_come(self):
        self.exactly(barring(APART, LINE, 2, "x"), ((0,), (0, 1), (1, 2), (2,), (2,)))
        self.exactly([barring(APART, LINE), barring(APART, LINE, place=None, value=None)], [None, None])
        self.exactly(barring(TWO, Line(XO, ["x"])), ((0,), (1,)))
        self.exactly(barring(Never(XO), Line.free(XO, 2), 1, "o"), ((0,), (0,), (0,)))

    def test_bad_places(self):
        for place in any_values() + [4, -1, -4, True, False, "0", (0,), 10 ** 59]:
            if type(place) is int and 0 <= place <= 3:
                continue
            for value in ["x", "o", "q", 0, [], "xo", LINE]:
                self.raises(BadNumber("place"), barring, APART, LINE, place, value)
            if place is not None:
                self.raises(BadNumber("place"), barring, APART, LINE, place)
        self.raises(BadNumber("place"), barring, APART, LINE, None, "x")
        self.raises(BadNumber("place"), barring, APART, LINE, value="x")
        self.raises(BadNumber("place"), barring, APART, Line(XO, ["x"]), 1, "x")

    def test_bad_values(self):
        for value in any_values(ABC) + ["q", "xo", "ox", "", "X", ["x"], ("x",), XO.cell("x"), XO.full, 0, 1, True, " "]:
            if value in ("x", "o"):
                continue
            error = self.raises(BadCell(value), barring, APART, LINE, 0, value)
            self.assertIs(error.value, value)
        # Behind a right place None is just another wrong value.
        self.raises(BadCell(None), barring, APART, LINE, 0)
        self.raises(BadCell(None), barring, APART, LINE, place=3)
        # A letter of the values that the cell has not.
        self.raises(BadCell("o"), barring, APART, LINE, 1, "o")

    def test_sets_of_the_least_machine(self):
        clue = Machine(XO, [[3, 1], [3, 0], [2, 2], [2, 1]], [True, True, False, True])
        self.exactly([clue.steps, clue == APART], [APART.steps, True])
        self.exactly(barring(clue, LINE, 0, "x"), ((0,), (1,), (2,), (2,), (2,)))


class JudgedLeft(Checks, unittest.TestCase):

    def test_all_parts(self):
        kinds = [0, 0]
        for clue, line in some_cases(84, 50):
            kept = str(line)
            found = judged_left(clue, line)
            self.assertIsInstance(found, Left)
            self.exactly(bool(found), found.line is not None)
            words = right_words_by_hand(clue, line)
            kinds[bool(words)] += 1
            if not words:
                self.exactly([found.line, found.shown, found.barred], [None, (), (sets_by_hand(clue, line),)])
                continue
            self.exactly([cell.letters for cell in found.line], left_by_hand(clue, line))
            marks = marks_by_hand(found.line)
            self.exactly([type(found.shown), len(found.shown)], [tuple, len(marks)])
            for word, (place, value) in zip(found.shown, marks):
                self.assertTrue(word in words and word[place] == value)
            others = [mark for mark in marks_by_hand(line) if mark not in marks]
            self.exactly(found.barred, tuple(sets_by_hand(clue, line, *mark) for mark in others))
            self.exactly(judged_left(clue, line).shown, found.shown)
            self.exactly(str(line), kept)
        self.assertTrue(min(kinds) > 10)

    def test_nothing_left(self):
        none = judged_left(clue=TWO, line=Line(XO, ["x"]))
        self.exactly([bool(none), none.line, none.shown, none.barred], [False, None, (), (((0,), (1,)),)])

    def test_a_new_line_and_thirty_cells(self):
        line = Line.free(ABCD, 30)
        found = judged_left(Few(ABCD, "d", 29), line)
        self.assertTrue(found.line == line and found.line is not line)
        self.exactly([len(found.shown), found.barred], [120, ()])
        line[0] = "d"
        self.exactly(found.line[0].letters, "abcd")
        found.line[1] = "a"
        self.exactly(line[1].letters, "abcd")
        found = judged_left(Listed(XO, "x" * 30), Line.free(XO, 30))
        self.exactly([found.shown, len(found.barred)], [("x" * 30,) * 30, 30])


if __name__ == "__main__":
    unittest.main()
