import unittest

from linestrikes.best import Best, factors
from linestrikes.books import Book
from linestrikes.clues import Machine
from linestrikes.errors import BadLine, BadNumber, Barred, Clash, TooMany, Unlike
from linestrikes.kinds import Ends, Every, Few, Listed, Modulo, Neighbours, Never, Runs
from linestrikes.lines import Line, Narrower
from linestrikes.rules import Rule
from linestrikes.strikers import Striker
from linestrikes.trails import trail
from linestrikes.values import Values
from tests.slow import has_sound_rows
from tests.slow_strikers import SlowBest, all_rules, factors_by_hand
from tests.support import ABC, ABCD, OX, XO, Checks, Dice, any_values, each_line
from tests.test_sound import some_clue

APART = Neighbours(XO, "xo", "ox", "oo")
TWO = Runs(XO, "x", 2)
BEHIND = Rule(XO, ["x", "xo"], 1, "x")
PAIR = Book(XO, BEHIND, -BEHIND)
LINE = Line(XO, ["xo", "x", "xo", "xo"])
WIDTHS = ((XO, 1), (XO, 2), (XO, 3), (XO, 4), (ABC, 1), (ABC, 2), (ABCD, 1), (ABCD, 2))


def some_clues(values, dice, many):
    """Clues of several kinds, among them those without a right word, and with the empty word alone."""
    yield from [Never(values), Listed(values, ""), Every(values), Listed(values, values.letters[0])]
    for _ in range(many):
        yield some_clue(values, dice)


def texts_of(cells):
    return [cell.letters for cell in cells]


class Factors(Checks, unittest.TestCase):

    def test_as_slow_answers(self):
        dice = Dice(201)
        many_empty = 0
        for values in (XO, ABC, ABCD):
            for clue in some_clues(values, dice, 40):
                for length in (1, 2, 3, 4):
                    cells = dice.line(values, length).cells
                    for left in (False, True):
                        for right in (False, True):
                            found = factors(clue, cells, left=left, right=right)
                            self.exactly(type(found), tuple)
                            self.exactly(texts_of(found), factors_by_hand(clue, cells, left, right), (cells, left, right))
                            self.assertTrue(all(cell.alphabet == values for cell in found))
                            many_empty += found[0].letters == ""
                            self.assertTrue(all(len(cell) for cell in found) or not any(len(cell) for cell in found))
        self.assertTrue(many_empty > 100, many_empty)

    def test_strings_and_cells_in_lists_and_tuples(self):
        cell = XO.cell
        for cells in (["x", "xo", "xo"], ("x", "xo", "xo"), [cell("x"), "ox", XO.full], (XO.numbered(1), cell("xo"), "ox")):
            self.exactly(texts_of(factors(APART, cells)), ["x", "o", "xo"])
        self.exactly(texts_of(factors(clue=APART, cells=["xo"])), ["xo"])
        self.exactly(texts_of(factors(APART, [Values("xo").full])), ["xo"])

    def test_ends(self):
        words = Listed(XO, "xo")
        self.exactly(texts_of(factors(words, ["xo"])), ["xo"])
        self.exactly(texts_of(factors(words, ["xo"], left=True)), ["x"])
        self.exactly(texts_of(factors(words, ["xo"], right=True)), ["o"])
        self.exactly(texts_of(factors(words, ["xo"], right=True, left=True)), [""])
        self.exactly(texts_of(factors(words, ["xo", "xo"], right=True, left=True)), ["x", "o"])
        self.exactly(texts_of(factors(words, ["xo", "xo"])), ["x", "o"])
        self.exactly(texts_of(factors(words, ["xo", "xo", "xo"])), ["", "", ""])
        # Read from any state, not from those alone that some word of the clue has at this place.
        self.exactly(texts_of(factors(Modulo(XO, "x", 2), ["x"], left=True, right=True)), [""])
        self.exactly(texts_of(factors(Modulo(XO, "x", 2), ["x"], right=True)), ["x"])
        for ask in (factors(Never(XO), ["xo"]), factors(Listed(XO, ""), ["xo", "x"])):
            self.assertFalse(any(len(cell) for cell in ask))
        with self.assertRaises(TypeError):
            factors(APART, ["x"], True)

    def test_thirty_cells(self):
        self.exactly(texts_of(factors(APART, ["xo"] * 29 + ["x"])), ["xo"] * 28 + ["o", "x"])
        self.exactly(texts_of(factors(APART, ["x"] + ["xo"] * 29, left=True, right=True)), ["x", "o"] + ["xo"] * 28)
        self.exactly(texts_of(factors(Listed(XO, "xo"), ["xo"] * 30)), [""] * 30)
        for many in (0, 31, 32, 400):
            self.raises(BadLine(None), factors, APART, ["xo"] * many)
            self.raises(BadLine(None), factors, APART, ("?",) * many)

    def test_errors(self):
        for thing in any_values():
            if isinstance(thing, (list, tuple)) and 1 <= len(thing) <= 30:
                continue
            self.raises(BadLine(None), factors, APART, thing)
            self.raises(BadLine(None), factors, APART, thing, left=True, right=True)
        for thing in any_values() + [OX.full, ABC.cell("a"), "a", "xox", "xx", "."]:
            if thing == "x" or thing == "xo" or thing == XO.full or thing == XO.cell("x"):
                continue
            for at in (0, 1, 3):
                cells = ["x", XO.full, "ox", "o"]
                cells[at] = thing
                self.raises(BadLine(at), factors, APART, cells)
                self.raises(BadLine(at), factors, APART, tuple(cells[:at + 1] + [None] * 3))
        self.raises(BadLine(1), factors, APART, ["x", OX.cell("x"), 3])
        self.raises(BadLine(0), factors, APART, [XO.empty])
        self.raises(BadLine(2), factors, APART, ["x", "x", ""])

    def test_arguments_stay(self):
        cells = ["x", XO.full, "ox"]
        factors(APART, cells)
        self.exactly(cells, ["x", XO.full, "ox"])


class BestStrikers(Checks, unittest.TestCase):

    def test_as_all_sound_rules(self):
        """What is struck, in order, what is left, the clashes and the rounds."""
        dice = Dice(202)
        kinds = {"left": 0, "clash": 0, "stable": 0}
        for values, width in WIDTHS:
            for clue in some_clues(values, dice, 8):
                slow, best = SlowBest(clue, width), Best(clue, width)
                lines = [line for length in range(1, 3 if len(values) == 2 else 2) for line in each_line(values, length)]
                lines.extend(dice.line(values, 1 + dice.below(6)) for _ in range(12))
                for line in lines:
                    text = str(line)
                    done, left, clash = slow.followed(line)
                    self.exactly(best.is_stable(line), slow.is_stable(line))
                    kinds["clash" if clash else "left" if done else "stable"] += 1
                    if clash:
                        self.clashes_as_told(best, line, done, clash)
                    else:
                        self.exactly(list(best.strikes(line)), done)
                        self.exactly(str(best(line)).split(" "), left)
                        same = line.copy()
                        self.exactly(best.narrowed(same), None)
                        self.exactly(str(same).split(" "), left)
                    self.rounds_as_told(best, slow, line)
                    self.exactly(str(line), text)
        self.assertTrue(min(kinds.values()) > 150, kinds)

    def clashes_as_told(self, best, line, done, clash):
        place, value = clash
        strikes = best.strikes(line)
        for strike in done:
            self.exactly(next(strikes), strike)
        self.raises_from(Clash(place), Barred(place, value), next, strikes)
        self.raises_from(Clash(place), Barred(place, value), best, line)
        same = line.copy()
        self.raises_from(Clash(place), Barred(place, value), best.narrowed, same)
        name = same
        try:
            name &= best
        except Clash as error:
            self.exactly([vars(error), vars(error.__cause__)], [{"place": place}, {"place": place, "value": value}])
        self.assertTrue(name is same and same == line)

    def rounds_as_told(self, best, slow, line):
        lines, clash = slow.rounds(line)
        found = best.rounds(line)
        for one in lines:
            self.exactly(str(next(found)).split(" "), one)
        if clash:
            self.raises_from(Clash(clash[0]), Barred(*clash), next, found)
        else:
            self.assertRaises(StopIteration, next, found)

    def test_stable_as_told_by_factors(self):
        dice = Dice(203)
        for values, width in WIDTHS:
            for clue in some_clues(values, dice, 12):
                best = Best(clue, width)
                for _ in range(25):
                    line = dice.line(values, 1 + dice.below(7))
                    if len(line) <= width:
                        windows = [(0, len(line))]
                    else:
                        windows = [(at, at + width) for at in range(len(line) - width + 1)]
                    is_stable = all(
                        factors_by_hand(clue, line.cells[at:end], at == 0, end == len(line)) == texts_of(line.cells[at:end])
                        for at, end in windows)
                    self.exactly(best.is_stable(line), is_stable)

    def test_short_lines_as_right_words_leave(self):
        """Of a line of at most width cells a best striker leaves what the right words within it leave."""
        dice = Dice(204)
        for values, width in WIDTHS:
            for clue in some_clues(values, dice, 10):
                best = Best(clue, width)
                for length in range(1, width + 1):
                    line = dice.line(values, length)
                    words = [word for word in line.words() if clue(word)]
                    if words:
                        wanted = [{word[at] for word in words} for at in range(length)]
                        self.exactly([set(cell.letters) for cell in best(line)], wanted)
                    else:
                        with self.assertRaises(Clash):
                            best(line)

    def test_examples(self):
        best = Best(APART, 2)
        self.exactly([best.lets(PAIR[0]), best.lets(Rule(XO, ["o", "xo"], 1, "x")), list(best.strikes(LINE)), str(best(LINE))],
                     [True, False, [(0, "x"), (2, "x")], "o x o xo"])
        self.exactly(list(Best(APART, 1).strikes(LINE)), [])
        self.raises_from(Clash(0), Barred(0, "x"), best, Line(XO, ["x", "x"]))
        self.raises_from(Clash(2), Barred(2, "x"), best, Line(XO, ["o", "xo", "x", "x"]))
        # The value x of the cell 0 is struck first; then the cell 1 is looked at anew.
        self.exactly(list(Best(Listed(XO, "oxo"), 4).strikes(Line.free(XO, 3))), [(0, "x"), (1, "o"), (2, "x")])
        self.raises_from(Clash(0), Barred(0, "o"), Best(Never(XO), 1), Line.free(XO, 2))
        self.exactly(list(self.until_clash(Best(Never(XO), 1), Line.free(XO, 2))), [(0, "x")])

    def until_clash(self, best, line):
        try:
            for strike in best.strikes(line):
                yield strike
        except Clash:
            return

    def test_the_least_cell_comes_anew(self):
        # Behind the strike of the cell 1 the cell 0 is struck, ahead of the cell 2.
        best = Best(Neighbours(ABC, "ab", "cc"), 2)
        line = Line(ABC, ["ac", "bc", "ac"])
        self.exactly(list(best.strikes(line)), [(1, "b"), (0, "a"), (2, "a")])
        self.exactly([str(one) for one in best.rounds(line)], ["ac c c", "c c c"])
        # The values come in their order, whatever letters they are.
        turned = Best(Neighbours(Values("cba"), "cc", "bb"), 2)
        self.exactly(list(turned.strikes(Line(turned.alphabet, ["cba", "c"]))), [(0, "b"), (0, "a")])

    def test_lines_shorter_than_the_width_just_as_long_and_longer(self):
        words = Listed(XO, "xoxo", "xo", "x")
        for width in (1, 2, 3, 4):
            best = Best(words, width)
            self.exactly(str(best(Line.free(XO, 1))), "x")
            self.exactly(str(best(Line.free(XO, 2))) if width > 1 else "x o", "x o")
        self.exactly(str(Best(words, 4)(Line.free(XO, 4))), "x o x o")
        for many in (3, 4, 5):
            if many != 4:
                with self.assertRaises(Clash):
                    Best(words, 4)(Line.free(XO, many))
        # Width 1 looks at the ends of the line alone, and at the only cell of a line of one.
        self.exactly(str(Best(words, 1)(Line.free(XO, 3))), "x xo xo")

    def test_no_right_word(self):
        for clue in (Never(XO), Listed(XO, "")):
            for width in (1, 2, 3, 4):
                for length in (1, 2, 3, 4, 5):
                    line = Line.free(XO, length)
                    self.exactly(Best(clue, width).is_stable(line), False)
                    with self.assertRaises(Clash):
                        line &= Best(clue, width)
                    self.assertTrue(line == Line.free(XO, length))

    def test_lets(self):
        dice = Dice(206)
        kinds = {True: 0, False: 0}
        for values, width in ((XO, 1), (XO, 2), (XO, 3), (ABC, 1)):
            for clue in some_clues(values, dice, 6):
                best = Best(clue, width)
                for rule in all_rules(values, width + 1 if len(values) == 2 and width < 3 else width):
                    wanted = len(rule) <= width and has_sound_rows(rule, clue)
                    kinds[wanted] += 1
                    self.exactly(best.lets(rule), wanted)
        self.assertTrue(min(kinds.values()) > 500, kinds)
        best = Best(APART, 2)
        for thing in any_values() + [-Rule(OX, ["x", "ox"], 1, "x"), Rule(OX, ["x", "ox"], 1, "x"), PAIR, [BEHIND], best]:
            if not (isinstance(thing, Rule) and thing.alphabet == XO):
                self.exactly(best.lets(thing), False)
        self.exactly([best.lets(thing=-BEHIND), Best(APART, 1).lets(BEHIND)], [True, False])
        self.exactly(Best(APART, 3).lets(Rule(XO, ["x", "x", "xo"], 2, "x")), True)

    def test_attributes_and_classes(self):
        for clue in (APART, TWO, Machine(ABC, [[0, 0, 0]], [True])):
            for width in (1, 2, 3, 4):
                best = Best(clue, width)
                self.assertTrue(best.clue is clue and best.width == width and best.alphabet == clue.alphabet)
                self.exactly(sorted(name for name in ("alphabet", "clue", "width") if name in vars(best)),
                             ["alphabet", "clue", "width"])
                self.assertTrue(isinstance(best, Striker) and isinstance(best, Narrower) and not isinstance(best, Book))
        self.exactly(Best(clue=APART, width=2).width, 2)

    def test_errors(self):
        for width in any_values() + [5, 2.0, True, False, 0, -1, "2", [2], 10 ** 59]:
            if type(width) is int and 1 <= width <= 4:
                continue
            self.raises(BadNumber("width"), Best, APART, width)
        best = Best(APART, 2)
        for values in (OX, ABC, Values("xoa")):
            line = Line.free(values, 3)
            self.raises(Unlike("values"), best.is_stable, line)
            self.raises(Unlike("values"), best, line)
            self.raises(Unlike("values"), lambda: next(best.strikes(line)))
            self.raises(Unlike("values"), lambda: next(best.rounds(line)))
            self.raises(Unlike("values"), best.narrowed, line)
            self.raises(Unlike("values"), line.__iand__, best)
            self.assertTrue(line == Line.free(values, 3))

    def test_mirrored(self):
        dice = Dice(207)
        for values in (XO, ABC):
            for clue in some_clues(values, dice, 12):
                for width in (1, 2):
                    best, turned = Best(clue, width), -Best(clue, width)
                    self.assertTrue(turned == Best(-clue, width) and type(turned) is Best)
                    self.assertTrue(-turned == best and turned.clue == -clue)
                    line = dice.line(values, 4)
                    self.exactly(turned.is_stable(-line), best.is_stable(line))
        # The sixth letter from the end is an x: read from behind, the clue has few states, and many otherwise.
        steps = [[k + 1, k + 1] for k in range(6)] + [[7, 8], [7, 7], [8, 8]]
        clue = Machine(XO, steps, [False] * 7 + [True, False])
        best = Best(clue, 1)
        self.raises(TooMany("states", 64), lambda: -clue)
        self.raises(TooMany("states", 64), lambda: -best)
        self.exactly(len(Best(-Machine(XO, steps[:6] + [[6, 6]], [True] + [False] * 6), 2).clue), 3 - 1)

    def test_equal(self):
        best = Best(APART, 2)
        same = Machine(XO, [[1, 0], [2, 0], [2, 2]], [True, True, False])
        self.exactly([best == Best(same, 2), best != Best(same, 2), best == Best(APART, 3), best == Best(TWO, 2)],
                     [True, False, False, False])
        self.assertFalse(Best(Every(XO), 1) == Best(Every(OX), 1))
        for thing in any_values() + [APART, PAIR, 2, (APART, 2), Book(XO)]:
            self.exactly([best == thing, thing == best, best != thing], [False, False, True])

    def test_strikes_work_on_the_line_as_it_is_then(self):
        best = Best(APART, 2)
        line = Line.free(XO, 3)
        strikes, rounds = best.strikes(line), best.rounds(line)
        line[1] = "x"
        self.exactly(next(strikes), (0, "x"))
        self.exactly(str(next(rounds)), "o x o")
        line[2] = "o"
        self.exactly(list(strikes), [(2, "x")])
        self.exactly([str(one) for one in rounds], [])
        self.exactly(str(line), "xo x o")

    def test_line_itself_is_narrowed(self):
        line = LINE.copy()
        same = line
        line &= Best(APART, 2)
        self.assertTrue(line is same)
        self.exactly([str(line), str(LINE)], ["o x o xo", "xo x xo xo"])

    def test_other_things_of_strikers(self):
        # A best striker of thirty cells, and a line of as many as a line may have.
        best = Best(Few(XO, "x", 1) & APART, 4)
        line = Line(XO, ["xo"] * 29 + ["x"])
        self.exactly(str(best(line)), " ".join(["xo"] * 26 + ["o"] * 3 + ["x"]))
        self.exactly(Best(APART, 3).is_stable(Line.free(XO, 4001)), True)
        self.exactly(Best(Ends(XO, "x", "x"), 3).is_stable(Line.sure(XO, "x" + "o" * 3999 + "x")), True)
        self.exactly(Best(Ends(XO, "x", "x"), 3).is_stable(Line.sure(XO, "x" + "o" * 4000)), False)
        self.exactly([trail(PAIR, LINE).done, list(Best(APART, 2).strikes(LINE))], [((0, 1), (1, 0)), [(0, "x"), (2, "x")]])


if __name__ == "__main__":
    unittest.main()
