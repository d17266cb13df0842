"""The machines of clues are had without merging states one by one: here they are compared with those that are."""

import unittest

from linestrikes.errors import LineError, TooMany
from linestrikes.kinds import Every, Few, Listed, Modulo, Never, Runs
from linestrikes.machines import least_machine
from tests.support import ABC, ABCD, OX, XO, Checks, Dice, each_text, least_by_table


def machine_by_states(values, start, step, is_told):
    """The steps and the told states of a machine whose states are any values."""
    states = [start]
    steps = []
    for state in states:
        row = [step(state, letter) for letter in values.letters]
        states.extend([after for after in dict.fromkeys(row) if after not in states])
        steps.append([states.index(after) for after in row])
    return steps, [is_told(state) for state in states]


def joined_by_pairs(one, other, truth):
    """The steps and the told states of the machine of all pairs of states."""
    numbers = {(0, 0): 0}
    pairs = [(0, 0)]
    steps = []
    for mine, their in pairs:
        row = list(zip(one.steps[mine], other.steps[their]))
        for pair in row:
            if pair not in numbers:
                numbers[pair] = len(pairs)
                pairs.append(pair)
        steps.append([numbers[pair] for pair in row])
    return steps, [truth(one.told[mine], other.told[their]) for mine, their in pairs]


SIGNS = [
    (lambda a, b: a & b, lambda a, b: a and b),
    (lambda a, b: a | b, lambda a, b: a or b),
    (lambda a, b: a - b, lambda a, b: a and not b),
    (lambda a, b: a ^ b, lambda a, b: a != b),
]


class Kinds(Checks, unittest.TestCase):

    def looked_at(self, clue, machine):
        self.exactly((clue.steps, clue.told), least_machine(*machine, 64))

    def test_few(self):
        for most in range(61):
            for values, mark in ((XO, "x"), (OX, "x"), (ABCD, "d")):
                def step(many, letter):
                    return min(many + (letter == mark), most + 1)
                machine = machine_by_states(values, 0, step, lambda many: many <= most)
                self.looked_at(Few(values, mark, most), machine)
        self.exactly(Few(XO, "x", 2).steps, ((1, 0), (2, 1), (3, 2), (3, 3)))

    def test_modulo(self):
        for modulus in range(1, 61):
            for rest in sorted({0, 1 % modulus, modulus // 2, modulus - 1}):
                for values, mark in ((XO, "o"), (ABC, "b"), (ABCD, "a")):
                    def step(many, letter):
                        return (many + (letter == mark)) % modulus
                    machine = machine_by_states(values, 0, step, lambda many: many == rest)
                    self.looked_at(Modulo(values, mark, modulus, rest), machine)
        self.exactly([Modulo(XO, "o", 1).steps, Modulo(XO, "o", 1).told], [((0, 0),), (True,)])

    def test_runs(self):
        dice = Dice(141)
        told = [(), (1,), (30,), (30, 30), (30, 29), (1,) * 8, (30, 30, 1), (2, 20, 20, 17), (2, 20, 20, 18), (30, 30, 2)]
        told.extend(tuple(1 + dice.below(9) for _ in range(dice.below(9))) for _ in range(60))
        kinds = [0, 0]
        for lengths in told:
            for values, mark in ((XO, "x"), (OX, "x"), (ABC, "b")):
                # A state: how many runs ended, how long the one is that stands, or None if the word is wrong.
                def step(state, letter):
                    if state is None:
                        return None
                    ended, now = state
                    if letter == mark:
                        is_wrong = ended == len(lengths) or now == lengths[ended]
                        return None if is_wrong else (ended, now + 1)
                    if now == 0:
                        return state
                    return (ended + 1, 0) if now == lengths[ended] else None

                def is_told(state):
                    if state is None:
                        return False
                    ended, now = state
                    return ended + (now > 0 and now == lengths[ended]) == len(lengths) and (
                        now == 0 or now == lengths[ended])

                machine = machine_by_states(values, (0, 0), step, is_told)
                many = max(2, sum(lengths) + len(lengths) + 1)
                kinds[many > 64] += 1
                if many > 64:
                    self.raises(TooMany("states", 64), Runs, values, mark, *lengths)
                    self.raises(TooMany("states", 64), least_machine, *machine, 64)
                else:
                    self.looked_at(Runs(values, mark, *lengths), machine)
                    self.exactly(len(Runs(values, mark, *lengths)), many)
        self.assertTrue(min(kinds) > 5)

    def test_listed(self):
        dice = Dice(142)
        kinds = [0, 0]
        for _ in range(150):
            values = (XO, ABC, ABCD)[dice.below(3)]
            longest = (1, 4, 9, 30)[dice.below(4)]
            words = ["".join(values.letters[dice.below(len(values))] for _ in range(dice.below(longest + 1)))
                     for _ in range(dice.below((3, 21)[dice.below(2)]))]

            def step(word, letter):
                longer = None if word is None else word + letter
                return longer if any(longer == some[:len(longer)] for some in words if longer) else None

            machine = machine_by_states(values, "", step, lambda word: word in words)
            try:
                wanted = least_machine(*machine, 64)
            except TooMany:
                kinds[1] += 1
                self.raises(TooMany("states", 64), Listed, values, *words)
                continue
            kinds[0] += 1
            clue = Listed(values, *words)
            self.exactly((clue.steps, clue.told), wanted)
            if longest < 9 and len(clue) < 20:
                self.exactly(wanted, least_by_table(values.letters, *machine))
        self.assertTrue(min(kinds) > 10)

    def test_bounds_of_listed(self):
        # So many states as the word has beginnings, and one more.
        self.exactly(len(Listed(XO, "x" * 30, "o" * 30)), 60 + 1)
        self.exactly(len(Listed(XO, "x" * 30, "o" * 30, "xoxoxo")), 64)
        self.raises(TooMany("states", 64), Listed, XO, "x" * 30, "o" * 30, "xoxoxox")
        self.exactly([len(Listed(XO)), len(Listed(XO, "")), len(Listed(XO, "", ""))], [1, 2, 2])
        self.exactly(Listed(XO, "x", "o", "xx").steps, ((1, 2), (2, 3), (3, 3), (3, 3)))


class Signs(Checks, unittest.TestCase):

    def some_clues(self, dice, values):
        letters = values.letters
        found = [Every(values), Never(values)]
        for _ in range(5):
            found.append(Modulo(values, letters[dice.below(len(letters))], 1 + dice.below(60)))
            found.append(Few(values, letters[dice.below(len(letters))], dice.below(61)))
            found.append(Runs(values, letters[dice.below(len(letters))], *[1 + dice.below(9) for _ in range(dice.below(4))]))
            found.append(dice.machine(values, 12)[0])
            found.append(Listed(values, *["".join(letters[dice.below(2)] for _ in range(dice.below(8))) for _ in range(5)]))
        return found

    def test_as_of_all_pairs_of_states(self):
        dice = Dice(143)
        kinds = [0, 0]
        for values in (XO, ABCD):
            clues = self.some_clues(dice, values)
            for _ in range(60):
                one, other = clues[dice.below(len(clues))], clues[dice.below(len(clues))]
                for sign, truth in SIGNS:
                    self.looked_at(sign, truth, one, other, clues, kinds)
        self.assertTrue(min(kinds) > 50, kinds)

    def looked_at(self, sign, truth, one, other, clues, kinds):
        try:
            wanted = least_machine(*joined_by_pairs(one, other, truth), 64)
        except TooMany:
            kinds[1] += 1
            self.raises(TooMany("states", 64), sign, one, other)
            return
        kinds[0] += 1
        joined = sign(one, other)
        self.exactly((joined.steps, joined.told), wanted)
        clues.append(joined)

    def test_not_mirrored_and_renamed(self):
        dice = Dice(144)
        for values in (XO, ABCD):
            for clue in self.some_clues(dice, values):
                turned = ~clue
                self.exactly((turned.steps, turned.told),
                             least_machine(clue.steps, [not is_told for is_told in clue.told], 64))
                self.exactly((~turned) == clue, True)
                names = dict(zip(values.letters, values.letters[::-1]))
                other = clue.renamed(names)
                self.exactly((other.steps, other.told), least_machine(clue.steps, clue.told, 64))
                try:
                    mirrored = -clue
                except LineError:
                    continue
                self.exactly((mirrored.steps, mirrored.told), least_machine(mirrored.steps, mirrored.told, 64))
                for word in each_text(values, 4):
                    self.exactly(mirrored(word), clue(word[::-1]))

    def test_within(self):
        dice = Dice(145)
        kinds = [0, 0]
        for values in (XO, ABC):
            clues = self.some_clues(dice, values)
            clues.extend([clue & Few(values, values.letters[0], 1) for clue in clues if len(clue) < 20])
            for one in clues:
                for other in clues:
                    steps, told = joined_by_pairs(one, other, lambda a, b: a and not b)
                    self.exactly(one.within(other), not any(told))
                    kinds[any(told)] += 1
        self.assertTrue(min(kinds) > 50, kinds)

    def test_many_large_clues(self):
        # Where this takes minutes, states are merged one by one.
        for modulus in range(40, 61):
            for other in range(40, 61):
                one, two = Modulo(ABCD, "d", modulus), Modulo(ABCD, "c", other)
                self.exactly([one.within(two), one == two, one == Modulo(ABCD, "d", modulus)], [False, False, True])
                self.exactly(Few(ABCD, "d", other).within(Few(ABCD, "d", modulus)), other <= modulus)
                self.raises(TooMany("states", 64), lambda: one & two)
                self.raises(TooMany("states", 64), lambda: one ^ two)


if __name__ == "__main__":
    unittest.main()
