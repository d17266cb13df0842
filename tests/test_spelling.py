import unittest

from linestrikes.spelling import each_word, word_total
from linestrikes.values import numbers_of
from tests.support import ABC, XO, Checks, Dice


class Spelling(Checks, unittest.TestCase):

    def test_right_words_that_fit(self):
        dice = Dice(61)
        for values in (XO, ABC):
            for _ in range(200):
                clue, _ = dice.machine(values, 6)
                line = dice.line(values, 1 + dice.below(5))
                wanted = [word for word in line.words() if clue(word)]
                numbers = numbers_of(line)
                self.exactly(list(each_word(values.letters, clue.steps, clue.told, numbers)), wanted)
                self.exactly(word_total(clue.steps, clue.told, numbers), len(wanted))

    def test_no_cells(self):
        for is_told in (True, False):
            self.exactly(list(each_word("xo", [[0, 0]], [is_told], [])), [""] if is_told else [])
            self.exactly(word_total([[0, 0]], [is_told], []), int(is_told))


if __name__ == "__main__":
    unittest.main()
