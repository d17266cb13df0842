import itertools
import unittest

from linestrikes.clues import Clue, Machine
from linestrikes.errors import BadNames, BadNumber, BadWord, TooMany, Unlike
from linestrikes.kinds import Every, Modulo, Never
from linestrikes.values import Values
from tests.support import ABC, ABCD, OX, XO, Checks, Dice, any_values, each_text, least_by_table
from tests.test_machines import turning
from tests.test_values import BAD_NAMES

SIGNS = [
    (lambda a, b: a & b, lambda a, b: a and b),
    (lambda a, b: a | b, lambda a, b: a or b),
    (lambda a, b: a - b, lambda a, b: a and not b),
    (lambda a, b: a ^ b, lambda a, b: a != b),
]


def nth_letter(values, place):
    """Words with the first value at a place."""
    last = place + 2
    steps = [[k + 1] * len(values) for k in range(place)]
    steps.append([last - 1] + [last] * (len(values) - 1))
    steps.extend([[last - 1] * len(values), [last] * len(values)])
    return Machine(values, steps, [False] * (place + 1) + [True, False])


class Words(Checks, unittest.TestCase):

    def test_calls_states_and_membership(self):
        clue = Machine(XO, [[1, 0], [2, 0], [2, 2]], [True, True, False])
        for word in each_text(XO, 6):
            self.exactly(clue(word), "xx" not in word)
            self.exactly(clue(word=word), "xx" not in word)
            self.exactly(word in clue, "xx" not in word)
            self.exactly(clue.state(word), 2 if "xx" in word else int(word.endswith("x")))
        self.exactly(clue.state(word="x" * 20000), 2)

    def test_bad_words(self):
        clue = Every(XO)
        for thing in any_values():
            if not isinstance(thing, str):
                self.raises(BadWord(0), clue, thing)
                self.raises(BadWord(0), clue.state, thing)
                self.exactly(thing in clue, False)
        for word, at in (("a", 0), ("xoa", 2), ("x o", 1), ("X", 0), ("xo\n", 2), ("-", 0), ("xaa", 1),
                         ("x" * 19999 + "q", 19999)):
            self.raises(BadWord(at), clue, word)
            self.raises(BadWord(at), clue.state, word)
            self.exactly(word in clue, False)
        self.exactly([clue(""), "" in clue, clue.state(""), "" in Never(XO)], [True, True, 0, False])


class Joining(Checks, unittest.TestCase):

    def test_signs(self):
        dice = Dice(5)
        for values in (XO, ABC):
            for _ in range(40):
                one, _ = dice.machine(values, 6)
                other, _ = dice.machine(Values(values.letters), 6)
                for sign, truth in SIGNS:
                    self.look_at(sign(one, other), lambda word: truth(one(word), other(word)))
                self.look_at(~one, lambda word: not one(word))
                self.look_at(-one, lambda word: one(word[::-1]))

    def look_at(self, clue, truth):
        self.assertIsInstance(clue, Clue)
        for word in each_text(clue.alphabet, 5):
            self.exactly(clue(word), truth(word))
        self.exactly((clue.steps, clue.told), least_by_table(clue.alphabet.letters, clue.steps, clue.told))
        self.exactly(clue == Machine(clue.alphabet, clue.steps, clue.told) if len(clue) <= 12 else True, True)

    def test_in_place_signs_bind_the_name_alone(self):
        one, other = Modulo(XO, "x", 2), Modulo(XO, "o", 2)
        for k in range(4):
            clue = one
            if k == 0:
                clue &= other
            elif k == 1:
                clue |= other
            elif k == 2:
                clue -= other
            else:
                clue ^= other
            self.exactly(clue == SIGNS[k][0](one, other), True)
            self.exactly([one("x"), one("o"), len(one)], [False, True, 2])

    def test_unlike_values(self):
        big = turning(OX, 12) & Modulo(OX, "x", 5)
        for other in (Every(OX), Never(ABC), Every(Values("xoa")), big):
            for sign, _ in SIGNS:
                self.raises(Unlike("values"), sign, Every(XO), other)
            self.raises(Unlike("values"), Every(XO).within, other)
        clue = Every(XO)
        with self.assertRaises(Unlike):
            clue &= Every(OX)
        self.exactly(clue == Every(XO), True)

    def test_sixty_four_states_are_let(self):
        one, other = Modulo(XO, "x", 8), Modulo(XO, "o", 8)
        self.exactly(len(one & other), 64)
        self.exactly(len(one ^ other), 64)
        self.raises(TooMany("states", 64), lambda: Modulo(XO, "x", 5) & Modulo(XO, "o", 13))
        self.raises(TooMany("states", 64), lambda: (one & other) | Modulo(XO, "x", 16))
        self.exactly(len(Modulo(XO, "x", 7) & Modulo(XO, "o", 9)), 63)
        for a, b in itertools.product(range(1, 20), repeat=2):
            self.lcm_states(a, b)

    def lcm_states(self, a, b):
        wanted = next(n for n in range(a, a * b + 1, a) if n % b == 0)
        one, other = Modulo(XO, "x", a), Modulo(XO, "x", b)
        for sign in (lambda: one & other, lambda: -(one & other)):
            if wanted > 64:
                self.raises(TooMany("states", 64), sign)
            else:
                self.exactly(len(sign()), wanted)

    def test_the_least_machine_counts_not_the_pairs(self):
        one, other = Modulo(XO, "x", 60), Modulo(XO, "o", 59)
        self.raises(TooMany("states", 64), lambda: one & other)
        self.exactly(len((one | ~one) & (other - other)), 1)
        big = Modulo(XO, "x", 8) & Modulo(XO, "o", 8)
        self.exactly([len(big & ~big), len(big ^ big), len(big | big), len(big - Every(XO))], [1, 1, 64, 1])

    def test_mirrored_clues_of_many_states(self):
        for place in range(7):
            clue = nth_letter(XO, place)
            self.exactly(len(clue), place + 3)
            if place < 6:
                self.exactly(len(-clue), 2 ** (place + 1))
                self.exactly(-(-clue) == clue, True)
            else:
                self.raises(TooMany("states", 64), lambda: -clue)
        self.raises(TooMany("states", 64), lambda: -nth_letter(ABCD, 9))

    def test_a_mirrored_clue_of_millions_of_states_is_refused_at_once(self):
        some = Every(ABCD)
        for k in range(3):
            steps = [[(state + 1) % 7] * 4 for state in range(7)] + [[7] * 4]
            steps[6][k] = 7
            some &= Machine(ABCD, steps, [False] * 7 + [True])
        self.exactly(len(some), 50)
        self.raises(TooMany("states", 64), lambda: -some)

    def test_a_refused_sign_leaves_the_name(self):
        clue = one = Modulo(XO, "x", 60)
        with self.assertRaises(TooMany):
            clue &= Modulo(XO, "o", 2)
        self.assertIs(clue, one)

    def test_equality(self):
        dice = Dice(7)
        clues = [dice.machine(XO, 4)[0] for _ in range(40)] + [Every(XO), Never(XO), Modulo(XO, "x", 2)]
        for one in clues:
            for other in clues:
                same = all(one(word) == other(word) for word in each_text(XO, 8))
                self.exactly(one == other, same)
                self.exactly(one != other, not same)
        self.exactly(Every(XO) == Every(OX), False)
        self.exactly(Every(XO) == Every(Values("xo")), True)
        for thing in any_values(ABC) + [(True,), ((0, 0),)]:
            self.exactly(Every(XO) == thing, False)
            self.exactly(thing == Every(XO), False)

    def test_within(self):
        dice = Dice(8)
        for _ in range(150):
            one, _ = dice.machine(XO, 3)
            other, _ = dice.machine(XO, 3)
            wanted = all(other(word) for word in each_text(XO, 9) if one(word))
            self.exactly(one.within(other), wanted)
            self.exactly((one & other).within(other=one), True)

    def test_within_of_clues_whose_joined_clue_is_refused(self):
        one, other = Modulo(XO, "x", 60), Modulo(XO, "x", 59)
        self.raises(TooMany("states", 64), lambda: one - other)
        self.exactly([one.within(other), other.within(one), one.within(~other)], [False, False, False])
        big = Modulo(XO, "x", 8) & Modulo(XO, "o", 8)
        third = Modulo(XO, "x", 59)
        self.raises(TooMany("states", 64), lambda: big - third)
        self.exactly([big.within(third), big.within(Modulo(XO, "x", 4)), third.within(big)], [False, True, False])
        self.raises(TooMany("states", 64), lambda: Modulo(XO, "x", 60) & Modulo(XO, "o", 60))
        self.exactly(Modulo(XO, "x", 60).within(Modulo(XO, "o", 60)), False)


class Telling(Checks, unittest.TestCase):

    def test_truth_and_first(self):
        dice = Dice(11)
        for values in (XO, ABC):
            for _ in range(100):
                clue, _ = dice.machine(values, 6)
                right = [word for word in each_text(values, 6) if clue(word)]
                self.exactly(bool(clue), bool(right))
                self.exactly(clue.first(), right[0] if right else None)
        self.exactly([Never(XO).first(), bool(Never(XO)), Every(XO).first(), bool(Every(XO))], [None, False, "", True])
        self.exactly((turning(OX, 12) - Modulo(OX, "x", 1)).first(), None)
        self.exactly((Modulo(OX, "x", 8) & Modulo(OX, "o", 8) - turning(OX, 1)).first(), None)
        self.exactly((Modulo(OX, "x", 8, 7) & Modulo(OX, "o", 8, 7)).first(), "o" * 7 + "x" * 7)

    def test_count_and_words(self):
        dice = Dice(12)
        for values in (XO, OX, ABC):
            for _ in range(30):
                clue, _ = dice.machine(values, 6)
                for length in range(6):
                    right = [word for word in each_text(values, length, length) if clue(word)]
                    self.exactly(clue.count(length), len(right))
                    self.exactly(list(clue.words(length)), right)

    def test_long_counts_and_words(self):
        self.exactly([Every(XO).count(1000), Every(ABCD).count(1000), Never(XO).count(1000)], [2 ** 1000, 4 ** 1000, 0])
        self.exactly(Modulo(XO, "x", 60, 0).count(60), 2)
        apart = Machine(XO, [[1, 0], [2, 0], [2, 2]], [True, True, False])
        before, many = 1, 2
        for length in range(1, 1001):
            if length in (1, 2, 30, 999, 1000):
                self.exactly(apart.count(length), many)
            before, many = many, before + many
        words = apart.words(1000)
        self.assertIs(iter(words), words)
        self.exactly([next(words), next(words)], ["xo" * 500, "xo" * 499 + "ox"])
        words = Every(OX).words(1000)
        self.exactly([next(words), next(words), next(words)], ["o" * 1000, "o" * 999 + "x", "o" * 998 + "xo"])
        self.exactly(list(Never(XO).words(1000)), [])
        self.exactly([list(Every(XO).words(0)), list(Never(XO).words(0)), Every(XO).count(0)], [[""], [], 1])
        self.exactly(list((Modulo(XO, "x", 60) - Modulo(XO, "x", 1, 0)).words(60)), [])

    def test_bad_lengths(self):
        for thing in any_values() + [-1, 1001, True, False, "3", [3], None, 2.0]:
            if type(thing) is int and 0 <= thing <= 1000:
                continue
            self.raises(BadNumber("length"), Every(XO).count, thing)
            self.raises(BadNumber("length"), lambda: list(Every(XO).words(thing)))
            self.raises(BadNumber("length"), lambda: next(Never(XO).words(thing)))

    def test_renamed(self):
        clue = Machine(XO, [[1, 0], [2, 0], [2, 2]], [True, True, False])
        other = clue.renamed({"x": "b", "o": "a"})
        self.assertIsInstance(other, Clue)
        self.exactly([other.alphabet == Values("ba"), other.steps, other.told, other.first(), (~other).first()],
                     [True, clue.steps, clue.told, "", "bb"])
        for word in each_text(Values("ba"), 5):
            self.exactly(other(word), "bb" not in word)
        self.exactly(clue.renamed(names={"x": "x", "o": "o"}) == clue, True)
        self.exactly(clue.renamed({"x": "o", "o": "x"}) == clue, False)
        for thing in any_values() + BAD_NAMES:
            self.raises(BadNames(), clue.renamed, thing)


if __name__ == "__main__":
    unittest.main()
