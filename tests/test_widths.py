import unittest

from linestrikes.best import Best
from linestrikes.complete import Complete, Incomplete, judge_complete
from linestrikes.errors import BadNumber, TooMany
from linestrikes.kinds import Ends, Every, Few, Listed, Modulo, Neighbours, Never, Runs
from linestrikes.widths import least_width, verdicts
from tests.slow import stand_fails
from tests.slow_strikers import SlowBest, rounds_of_striker
from tests.support import ABC, ABCD, XO, Checks, Dice, any_values
from tests.test_sound import some_clue

APART = Neighbours(XO, "xo", "ox", "oo")
EVEN = Modulo(XO, "x", 2)


def short_words(values, dice):
    """A clue of a few short words."""
    letters = values.letters
    return Listed(values, *["".join(letters[dice.below(len(letters))] for _ in range(1 + dice.below(3))) for _ in range(3)])


def papers(found):
    return [one.paper() for one in found]


class Verdicts(Checks, unittest.TestCase):

    def test_as_judge_complete(self):
        dice = Dice(251)
        lengths = {}
        for values, widest in ((XO, 4), (ABC, 2), (ABCD, 1)):
            for k in range(25):
                clue = some_clue(values, dice) if k % 3 else short_words(values, dice)
                most_width = 1 + dice.below(widest)
                wanted = []
                for width in range(1, most_width + 1):
                    wanted.append(judge_complete(Best(clue, width), clue))
                    if wanted[-1]:
                        break
                found = list(verdicts(clue, most_width))
                self.exactly(papers(found), papers(wanted))
                self.exactly([type(one) for one in found[:-1]], [Incomplete] * (len(found) - 1))
                least = len(found) if found[-1] else None
                self.exactly(least_width(clue, most_width), least)
                lengths[least] = lengths.get(least, 0) + 1
        self.assertTrue(len(lengths) == 5 and min(lengths[None], lengths[1], lengths[2]) > 4, lengths)

    def test_as_slow_answers(self):
        """By all sound rules: whether a walk with them comes to a stand that fails."""
        words = [["x"], ["xo"], ["xo", "ox"], ["xoo", "oox"], ["", "xx"], ["xx", "ooo"]]
        clues = [Listed(XO, *some) for some in words] + [APART, EVEN, Every(XO), Never(XO), Runs(XO, "x", 1), Few(XO, "x", 1)]
        for clue in clues:
            wanted = None
            for width in (1, 2, 3):
                stands = [stand for some in rounds_of_striker(SlowBest(clue, width), clue) for stand in some]
                if wanted is None and not any(stand_fails(clue, stand) for stand in stands):
                    wanted = width
            self.exactly(least_width(clue, 3), wanted)

    def test_examples(self):
        self.exactly([least_width(APART), least_width(EVEN, 3), [str(one.line) for one in verdicts(EVEN, 2)]],
                     [2, None, ["x o", "x x x"]])
        self.exactly([least_width(clue) for clue in (Every(XO), Never(XO), Listed(XO, ""), Few(XO, "x", 0), Ends(XO, "x", "xo"),
                                                     Ends(XO, "x", "o"))], [1] * 6)
        self.exactly([least_width(Listed(XO, *words)) for words in (["x"], ["xo"], ["xo", "ox"], ["xoo", "oox"])], [2, 2, 3, 4])
        self.exactly(least_width(Neighbours(ABC, "ab", "bc", "ca"), 3), 2)

    def test_one_by_one(self):
        found = verdicts(EVEN, 4)
        for line in ("x o", "x x x", "x x x o", "x x x x x"):
            judged = next(found)
            self.exactly([type(judged), str(judged.line)], [Incomplete, line])
        self.assertRaises(StopIteration, next, found)
        found = verdicts(APART)
        self.exactly([type(next(found)), type(next(found))], [Incomplete, Complete])
        self.assertRaises(StopIteration, next, found)
        self.exactly(len(list(verdicts(Every(XO)))), 1)

    def test_arguments(self):
        self.exactly(papers(verdicts(clue=EVEN, most_width=2, most=4000)), papers(verdicts(EVEN, 2)))
        self.exactly([least_width(EVEN, most_width=3), least_width(clue=APART, most_width=2), least_width(APART, 1),
                      least_width(APART, 2, most=24)], [None, 2, None, 2])
        self.exactly([len(list(verdicts(EVEN))), len(list(verdicts(EVEN, 1)))], [4, 1])
        for ask in (verdicts, least_width):
            with self.assertRaises(TypeError):
                ask(EVEN, 2, 4000)

    def test_too_many_in_the_place_of_a_verdict(self):
        found = verdicts(APART, most=23)
        self.exactly(next(found).kind, "incomplete")
        self.raises(TooMany("stands", 23), next, found)
        self.raises(TooMany("stands", 23), least_width, APART, most=23)
        self.exactly([one.kind for one in verdicts(APART, most=24)], ["incomplete", "complete"])
        self.exactly(least_width(APART, 1, most=23), None)
        self.raises(TooMany("stands", 1), next, verdicts(Every(XO), most=1))
        self.raises(TooMany("stands", 1), least_width, Every(XO), 4, most=1)
        # A width that is too many is not stepped over, though a wider one would be judged.
        dice = Dice(252)
        many = 0
        for _ in range(60):
            clue = some_clue(XO, dice)
            for most in (6, 20, 60):
                wanted = None
                got = []
                for width in (1, 2, 3):
                    try:
                        got.append(judge_complete(Best(clue, width), clue, most=most))
                    except TooMany:
                        wanted = TooMany("stands", most)
                        break
                    if got[-1]:
                        break
                found = verdicts(clue, 3, most=most)
                self.exactly([next(found).paper() for _ in got], papers(got))
                if wanted:
                    many += 1
                    self.raises(wanted, next, found)
                    self.raises(TooMany("stands", most), least_width, clue, 3, most=most)
                else:
                    self.assertRaises(StopIteration, next, found)
        self.assertTrue(many > 20, many)

    def test_errors(self):
        for thing in any_values() + [5, 0, -1, True, False, 2.0, "2", None]:
            if not (type(thing) is int and 1 <= thing <= 4):
                self.raises(BadNumber("most_width"), lambda: next(verdicts(APART, thing)))
                self.raises(BadNumber("most_width"), lambda: next(verdicts(APART, most_width=thing, most=0)))
                self.raises(BadNumber("most_width"), least_width, APART, thing)
                self.raises(BadNumber("most_width"), least_width, APART, thing, most="1")
            if not (type(thing) is int and 1 <= thing <= 4000):
                self.raises(BadNumber("most"), lambda: next(verdicts(APART, most=thing)))
                self.raises(BadNumber("most"), least_width, APART, 2, most=thing)
        self.raises(BadNumber("most"), least_width, APART, most=4001)
        self.exactly(least_width(APART, most=4000), 2)

    def test_no_width_will_do(self):
        for clue in (EVEN, Runs(XO, "x", 2), Modulo(ABC, "a", 3)):
            widest = 4 if len(clue.alphabet) == 2 else 2
            found = list(verdicts(clue, widest))
            self.exactly([len(found), [bool(one) for one in found], least_width(clue, widest)],
                         [widest, [False] * widest, None])


if __name__ == "__main__":
    unittest.main()
