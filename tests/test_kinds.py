import unittest

from linestrikes.clues import Clue, Machine, Marked
from linestrikes.errors import BadClue, BadNumber, BadValues, BadWord, TooMany, Unlike
from linestrikes.kinds import Ends, Every, Few, Listed, Modulo, Neighbours, Never, Runs
from linestrikes.values import Cell, Values
from tests.support import ABC, ABCD, OX, XO, Checks, Dice, any_values, each_text, least_by_table


def runs_of(word, mark):
    """The lengths of the runs of a mark."""
    return [len(run) for run in "".join(mark if letter == mark else " " for letter in word).split()]


def some_of_each(values):
    """A clue of each kind with what tells its right words."""
    first, second = values.letters[:2]
    last = values.letters[-1]
    return [
        (Runs(values, last, 1, 2), lambda word: runs_of(word, last) == [1, 2]),
        (Runs(values, first), lambda word: first not in word),
        (Few(values, second, 2), lambda word: word.count(second) <= 2),
        (Modulo(values, first, 3, 1), lambda word: word.count(first) % 3 == 1),
        (Neighbours(values, first + second, second + last), lambda word: all(
            word[k:k + 2] in (first + second, second + last) for k in range(len(word) - 1))),
        (Ends(values, first, last + first), lambda word: word[:1] == first and word[-1] in (last, first)),
        (Listed(values, "", first, last + second), lambda word: word in ("", first, last + second)),
        (Every(values), lambda word: True),
        (Never(values), lambda word: False),
    ]


class Kinds(Checks, unittest.TestCase):

    def test_each_kind_is_a_clue_with_its_least_machine(self):
        for values in (XO, OX, ABC, ABCD):
            for clue, truth in some_of_each(values):
                self.assertIsInstance(clue, Clue)
                self.assertIs(clue.alphabet, values)
                self.exactly(isinstance(clue, Marked), isinstance(clue, (Runs, Few, Modulo)))
                self.exactly((clue.steps, clue.told), least_by_table(values.letters, clue.steps, clue.told))
                for word in each_text(values, 5):
                    self.exactly(clue(word), truth(word), word)

    def test_kinds_are_joined_mirrored_counted(self):
        for values in (XO, ABC):
            clues = some_of_each(values)
            for one, truth in clues:
                for word in each_text(values, 4):
                    self.exactly((~one)(word), not truth(word))
                    self.exactly((-one)(word), truth(word[::-1]))
                for length in range(4):
                    right = [word for word in each_text(values, length, length) if truth(word)]
                    self.exactly([one.count(length), list(one.words(length))], [len(right), right])
                for other, its in clues:
                    self.look_at_pair(one, truth, other, its)

    def look_at_pair(self, one, truth, other, its):
        words = list(each_text(one.alphabet, 4))
        both = [word for word in words if truth(word) and its(word)]
        self.exactly([word for word in words if word in one & other], both)
        self.exactly([word for word in words if word in one | other], [w for w in words if truth(w) or its(w)])
        self.exactly([word for word in words if word in one - other], [w for w in words if truth(w) and not its(w)])
        self.exactly([word for word in words if word in one ^ other], [w for w in words if truth(w) != its(w)])
        self.exactly((one & other).within(one), True)
        if both:
            self.exactly((one & other).first(), both[0])

    def test_renamed(self):
        clue = Runs(XO, "x", 2).renamed({"x": "b", "o": "a"})
        self.exactly(clue == Runs(Values("ba"), "b", 2), True)
        ends = Ends(ABC, "ab", "c").renamed({"a": "z", "b": "c", "c": "b"})
        self.exactly(ends == Ends(Values("zcb"), "cz", "b"), True)

    def test_the_same_words_told_in_other_ways(self):
        pairs = [
            (Every(XO), Neighbours(XO, "xx", "xo", "ox", "oo")), (Every(XO), Modulo(XO, "x", 1)),
            (Every(XO), Never(XO) | ~Never(XO)), (Never(XO), Listed(XO)), (Never(XO), Ends(XO, "", "x")),
            (Never(XO), Ends(XO, "x", "")), (Runs(XO, "x"), Few(XO, "x", 0)), (Listed(XO, "x"), Listed(XO, "x", "x")),
            (Ends(XO, "x", "o"), -Ends(XO, "o", "x")), (Neighbours(XO, "xo"), -Neighbours(XO, "ox")),
            (Listed(XO, "", "x", "o"), Neighbours(XO)), (Runs(XO, "x", 1, 2), -Runs(XO, "x", 2, 1)),
            (Ends(XO, "xo", "ox") | Listed(XO, ""), Every(XO)), (Modulo(XO, "x", 2) ^ Modulo(XO, "x", 2, 1), Every(XO)),
            (Few(XO, "x", 1) - Few(XO, "x", 0), Runs(XO, "x", 1)), (Modulo(XO, "x", 4), Modulo(XO, "x", 4, 0)),
            (Every(XO), Machine(XO, [[1, 0], [0, 1]], [True, True])),
        ]
        for one, other in pairs:
            self.exactly([one == other, one.within(other), other.within(one)], [True, True, True])
        self.exactly(Every(XO) == Every(OX), False)
        self.exactly(Few(XO, "x", 1) == Few(XO, "x", 2), False)

    def test_unlike_values(self):
        for one, _ in some_of_each(XO):
            for other, _ in some_of_each(OX):
                self.raises(Unlike("values"), lambda: one & other)
                self.raises(Unlike("values"), one.within, other)

    def test_bad_values_are_ahead_of_all(self):
        for thing in any_values() + ["xo", ("x", "o")]:
            if isinstance(thing, Values):
                continue
            for ask in (lambda: Runs(thing, None, *[None] * 9), lambda: Few(thing, None, None),
                        lambda: Modulo(thing, None, None, None), lambda: Neighbours(thing, None),
                        lambda: Ends(thing, None, None), lambda: Listed(thing, *[None] * 21),
                        lambda: Every(thing), lambda: Never(thing)):
                error = self.raises(BadValues(thing), ask)
                self.assertIs(error.value, thing)

    def test_bad_marks(self):
        for thing in any_values() + ["a", "xo", "", "X", ["x"], XO.cell("x")]:
            for ask in (lambda: Runs(XO, thing, *[None] * 9), lambda: Few(XO, thing, None),
                        lambda: Modulo(XO, thing, None, None)):
                self.raises(BadClue("mark"), ask)

    def test_marks(self):
        for clue in (Runs(ABC, "b", 1), Few(ABC, "b", 1), Modulo(ABC, "b", 2)):
            self.exactly(clue.mark, "b")
            for word in each_text(ABC, 4):
                self.exactly(clue.marks(word), word.count("b"))
            self.exactly(clue.marks(word="bbb"), 3)
            for thing in any_values():
                if not isinstance(thing, str):
                    self.raises(BadWord(0), clue.marks, thing)
            for word, at in (("x", 0), ("bbx", 2), ("b b", 1), ("abc\n", 3)):
                self.raises(BadWord(at), clue.marks, word)


class MarkedKinds(Checks, unittest.TestCase):

    def test_runs(self):
        for values in (XO, OX, ABC):
            for lengths in ((), (1,), (2,), (3,), (1, 1), (2, 1), (1, 1, 1), (1, 2, 1)):
                clue = Runs(values, "o" if "o" in values else "b", *lengths)
                self.exactly(clue.lengths, lengths)
                for word in each_text(values, 7):
                    self.exactly(clue(word), runs_of(word, clue.mark) == list(lengths))
        self.exactly(Runs(XO, "x", 30).first(), "x" * 30)
        self.exactly(Runs(XO, "x", *[1] * 8).first(), "o".join("x" * 8))
        self.exactly([Runs(XO, "x").steps, Runs(XO, "x").told], [((1, 0), (1, 1)), (True, False)])

    def test_bad_runs(self):
        for thing in any_values() + [0, -1, 31, "1", [1], True]:
            if type(thing) is int and 1 <= thing <= 30:
                continue
            self.raises(BadClue(0), Runs, XO, "x", thing)
            self.raises(BadClue(1), Runs, XO, "x", 2, thing, thing)
            self.raises(BadClue(7), Runs, XO, "x", *[30] * 7, thing)
            self.raises(BadClue("lengths"), Runs, XO, "x", *[1] * 8, thing)
            self.raises(BadClue("lengths"), Runs, XO, "x", thing, *[1] * 8)

    def test_too_many_states_of_runs(self):
        for lengths in ((30,), (30, 30), (30, 29, 1), (7, 7, 7, 7, 7, 7, 7, 6), (1, 1), (30, 30, 1), (30, 30, 30),
                        (30, 28, 2), (30, 29, 2), (7,) * 8, (8,) + (7,) * 7, (30,) * 8, (20, 20, 20), (21, 20, 20)):
            many = sum(lengths) + max(len(lengths), 1) + 1
            if many > 64:
                self.raises(TooMany("states", 64), Runs, XO, "x", *lengths)
            else:
                self.exactly(len(Runs(XO, "x", *lengths)), many)
        self.exactly(len(Runs(XO, "x", 30, 29, 1)), 64)

    def test_few(self):
        for most in (0, 1, 2, 3):
            clue = Few(ABC, "b", most)
            self.exactly([clue.most, clue.mark], [most, "b"])
            for word in each_text(ABC, 5):
                self.exactly(clue(word), word.count("b") <= most)
        clue = Few(values=OX, mark="x", most=60)
        self.exactly([len(clue), clue("x" * 60), clue("x" * 61), clue("xo" * 60)], [62, True, False, True])
        for thing in any_values() + [-1, 61, True, "1", [1], None]:
            if type(thing) is int and 0 <= thing <= 60:
                continue
            self.raises(BadNumber("most"), Few, XO, "x", thing)

    def test_modulo(self):
        for modulus in (1, 2, 3, 4):
            for rest in range(modulus):
                clue = Modulo(ABC, "c", modulus, rest)
                self.exactly([clue.mark, clue.modulus, clue.rest], ["c", modulus, rest])
                for word in each_text(ABC, 5):
                    self.exactly(clue(word), word.count("c") % modulus == rest)
        self.exactly([Modulo(XO, "x", 60).rest, len(Modulo(XO, "x", 60, 59))], [0, 60])
        self.exactly(Modulo(values=XO, mark="x", modulus=3, rest=2)("xx"), True)

    def test_bad_modulo(self):
        for thing in any_values() + [0, -1, 61, True, "2", [2], None]:
            if type(thing) is int and 1 <= thing <= 60:
                continue
            self.raises(BadNumber("modulus"), Modulo, XO, "x", thing)
            self.raises(BadNumber("modulus"), Modulo, XO, "x", thing, thing)
        for thing in any_values() + [-1, 4, 5, True, False, "2", [2], None]:
            if type(thing) is int and 0 <= thing <= 3:
                continue
            self.raises(BadNumber("rest"), Modulo, XO, "x", 4, thing)
        self.raises(BadNumber("rest"), Modulo, XO, "x", 1, 1)


class OtherKinds(Checks, unittest.TestCase):

    def test_neighbours(self):
        dice = Dice(21)
        for values in (XO, ABC):
            pairs = [a + b for a in values.letters for b in values.letters]
            for _ in range(20):
                some = [pair for pair in pairs if dice.below(2)]
                clue = Neighbours(values, *some, *some[:1])
                self.exactly(clue.pairs, (*some, *some[:1]))
                for word in each_text(values, 5):
                    self.exactly(clue(word), all(word[k:k + 2] in some for k in range(len(word) - 1)))
        nothing = Neighbours(XO)
        self.exactly([nothing.pairs, nothing(""), nothing("x"), nothing("xo")], [(), True, True, False])
        self.exactly(len(Neighbours(ABCD, *["ab"] * 50).pairs), 50)

    def test_bad_neighbours(self):
        for thing in any_values(ABC) + ["", "x", "xa", "xox", "x o", ("x", "o"), ["xo"], XO.full]:
            self.raises(BadClue(0), Neighbours, XO, thing)
            self.raises(BadClue(2), Neighbours, XO, "xo", "xo", thing, thing)

    def test_ends(self):
        for values in (XO, ABC):
            for opening in values.each_cell():
                for closing in values.each_cell():
                    passed = [(opening, closing), (opening.letters, closing.letters[::-1]),
                              (opening, closing.letters), (Values(values.letters).numbered(opening.number), closing)]
                    for one, other in passed:
                        self.look_at_ends(values, one, other, opening, closing)

    def look_at_ends(self, values, one, other, opening, closing):
        clue = Ends(values, one, other)
        self.assertTrue(isinstance(clue.opening, Cell) and isinstance(clue.closing, Cell))
        self.assertTrue(clue.opening == opening and clue.closing == closing)
        for word in each_text(values, 3):
            wanted = word != "" and word[0] in opening.letters and word[-1] in closing.letters
            self.exactly(clue(word), wanted)

    def test_ends_of_no_cells(self):
        clue = Ends(values=XO, opening="", closing=XO.empty)
        self.exactly([clue.opening == XO.empty, clue.closing == XO.empty, bool(clue), len(clue)],
                     [True, True, False, 1])

    def test_bad_ends(self):
        wrong = any_values(ABC) + ["xx", "a", "xa", OX.full, OX.empty, Values("xoa").cell("x"), ["x"], ("x",), 1]
        for thing in wrong:
            if not isinstance(thing, str) or thing not in ("", "x", "o", "xo", "ox"):
                self.raises(BadClue("opening"), Ends, XO, thing, thing)
                self.raises(BadClue("opening"), Ends, XO, thing, "x")
                self.raises(BadClue("closing"), Ends, XO, "x", thing)

    def test_listed(self):
        dice = Dice(22)
        for values in (XO, ABC):
            words = list(each_text(values, 4))
            for _ in range(20):
                some = [words[dice.below(len(words))] for _ in range(1 + dice.below(10))]
                some.append(some[0])
                clue = Listed(values, *some)
                self.exactly(clue.listed, tuple(some))
                for word in each_text(values, 5):
                    self.exactly(clue(word), word in some)
        self.exactly([Listed(XO).listed, Listed(XO, "").listed, Listed(XO, "")(""), Listed(XO)("")],
                     [(), ("",), True, False])

    def test_bounds_of_listed(self):
        self.exactly(len(Listed(XO, *["x"] * 20)), 3)
        self.raises(BadClue("words"), Listed, XO, *["x"] * 21)
        self.raises(BadClue("words"), Listed, XO, None, *["x"] * 20)
        self.exactly(len(Listed(XO, "xo" * 15)), 32)
        self.raises(BadClue(1), Listed, XO, "x", "x" * 31, None)
        for thing in any_values(ABC) + ["a", "xa", "x o", ["x"], ("x",), 1, XO.full, "-"]:
            if thing != "":
                self.raises(BadClue(0), Listed, XO, thing)
                self.raises(BadClue(19), Listed, XO, *["x"] * 19, thing)

    def test_too_many_states_of_listed(self):
        # A word of one letter alone has a state for each of its beginnings, and one for all other words.
        self.exactly(len(Listed(XO, "x" * 30, "o" * 30)), 2 + 29 + 29 + 1)
        long = ["xxo" + "x" * 27, "xxx" + "o" * 27, "oo" + "ox" * 14, "xo" * 15]
        with self.assertRaises(TooMany) as caught:
            Listed(XO, *long)
        self.exactly(vars(caught.exception), {"what": "states", "most": 64})
        for tail in range(1, 29):
            words = ["x" * 30, "o" * 30, "xo" + "x" * tail]
            steps, told = trie(words)
            many = len(least_by_table("xo", steps, told)[1])
            if many > 64:
                self.raises(TooMany("states", 64), Listed, XO, *words)
            else:
                self.exactly(len(Listed(XO, *words)), many)

    def test_every_and_never(self):
        for values in (XO, ABCD):
            for word in each_text(values, 3):
                self.exactly([Every(values)(word), Never(values)(word)], [True, False])
            self.exactly([Every(values).steps, Every(values).told], [((0,) * len(values),), (True,)])
            self.exactly([Never(values).steps, Never(values).told], [((0,) * len(values),), (False,)])
        self.exactly(Every(values=XO) == ~Never(values=XO), True)


def trie(words):
    """A machine for a list of words over x and o."""
    some = sorted({word[:k] for word in words for k in range(len(word) + 1)}, key=lambda word: (len(word), word))
    steps = [[some.index(one + letter) if one + letter in some else len(some) for letter in "xo"] for one in some]
    return steps + [[len(some)] * 2], [one in words for one in some] + [False]


if __name__ == "__main__":
    unittest.main()
