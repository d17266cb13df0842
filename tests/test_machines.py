import unittest

from linestrikes.clues import Clue, Machine, Marked
from linestrikes.errors import BadMachine, BadValues
from linestrikes.values import Values
from tests.support import ABC, ABCD, XO, Checks, Dice, any_values, each_text, least_by_table, state_by_table

LOOP = [[0, 0]]


def turning(values, many):
    """A machine that counts letters up to a number, and then begins anew."""
    steps = [[(state + 1) % many for _ in values.letters] for state in range(many)]
    return Machine(values, steps, [state == 0 for state in range(many)])


class MachineTest(Checks, unittest.TestCase):

    def test_what_a_machine_is(self):
        clue = Machine(XO, LOOP, [True])
        self.assertIsInstance(clue, Clue)
        self.assertIs(clue.alphabet, XO)

    def test_the_least_machine_and_its_numbers(self):
        dice = Dice(2)
        for values in (XO, ABC, ABCD):
            for _ in range(200):
                many = 1 + dice.below(12)
                steps = [tuple(dice.below(many) for _ in values.letters) for _ in range(many)]
                told = [dice.below(3) == 0 for _ in range(many)]
                clue = Machine(values, steps, told)
                wanted = least_by_table(values.letters, steps, told)
                self.exactly((clue.steps, clue.told), wanted)
                self.exactly(len(clue), len(wanted[1]))
                for word in each_text(values, 3):
                    self.exactly(clue(word), told[state_by_table(steps, word, values.letters)])
                    self.exactly(clue.state(word), state_by_table(wanted[0], word, values.letters))

    def test_states_are_numbered_as_words_first_come_to_them(self):
        dice = Dice(3)
        for values in (XO, ABC):
            for _ in range(60):
                clue, _ = dice.machine(values, 8)
                order = []
                for word in each_text(values, 7):
                    state = clue.state(word)
                    if state not in order:
                        order.append(state)
                self.exactly(order, list(range(len(clue))))

    def test_unused_and_alike_states(self):
        self.exactly(Machine(XO, [[0, 0], [1, 1]], [True, False]).steps, ((0, 0),))
        self.exactly(Machine(XO, [[0, 0], [1, 1]], [True, False]).told, (True,))
        alike = Machine(XO, [[1, 2], [2, 1], [1, 2]], [True, True, True])
        self.exactly([alike.steps, alike.told], [((0, 0),), (True,)])
        turned = Machine(XO, [[2, 1], [1, 1], [2, 2]], [False, True, False])
        self.exactly([turned.steps, turned.told], [((1, 2), (1, 1), (2, 2)), (False, False, True)])

    def test_one_to_twelve_states(self):
        for many in range(1, 13):
            clue = turning(XO, many)
            self.exactly(len(clue), many)
            self.exactly([clue("x" * length) for length in range(25)], [length % many == 0 for length in range(25)])
        with self.assertRaises(BadMachine):
            turning(XO, 13)
        self.exactly([Machine.MOST, Clue.MOST], [12, 64])

    def test_names_of_the_arguments(self):
        clue = Machine(values=XO, steps=[[0, 0]], told=(True,))
        self.exactly([clue.steps, clue.told], [((0, 0),), (True,)])

    def test_bad_values(self):
        for thing in any_values() + ["xo", XO.full]:
            if not isinstance(thing, Values):
                error = self.raises(BadValues(thing), Machine, thing, None, None)
                self.assertIs(error.value, thing)

    def test_bad_steps(self):
        wrong = [[], (), [[0, 0]] * 13, [[0, 0], [0]], [[0, 0, 0]], [[0, 1]], [[0, -1]], [[0, True]], [[False, 0]],
                 [[0, None]], [[0, "0"]], [{0: 0, 1: 0}], ["00"], {0: [0, 0]}, [[0, 0], None], "ab", [0, 0], [[0], [0]],
                 [[[0], 0]], [[0, 10 ** 59]], [(0, 1), (2, 0)]]
        for thing in any_values() + wrong:
            for told in ([True], None, [True] * 13):
                self.raises(BadMachine("steps"), Machine, XO, thing, told)
        self.raises(BadMachine("steps"), Machine, ABC, [[0, 0]], [True])

    def test_bad_told(self):
        wrong = [[], (), [True, False], [1], [0], [None], ["yes"], {0: True}, True, [[True]], "T", (True, True, True)]
        for thing in any_values() + wrong:
            if not isinstance(thing, list) or thing != [True]:
                self.raises(BadMachine("told"), Machine, XO, LOOP, thing)
        self.raises(BadMachine("told"), Machine, XO, [[0, 1], [1, 0]], [True])
        self.raises(BadMachine("told"), Machine, XO, [[0, 1], [1, 0]], [True, 1])

    def test_what_is_passed_stays(self):
        steps, told = [[0, 1], [1, 0]], [True, False]
        clue = Machine(XO, steps, told)
        self.exactly([steps, told], [[[0, 1], [1, 0]], [True, False]])
        steps[0][1] = 0
        steps.append([0, 0])
        told[0] = False
        self.exactly([clue.steps, clue.told, clue("oo")], [((0, 1), (1, 0)), (True, False), True])

    def test_a_machine_is_not_marked(self):
        self.assertFalse(isinstance(Machine(XO, LOOP, [True]), Marked))


if __name__ == "__main__":
    unittest.main()
