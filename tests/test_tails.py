import itertools
import unittest

from linestrikes.tails import NO_CELLS, Tails, has_all_cells, length_of, numbers_of_tail, tail_of
from tests.support import Checks


class TailNumbers(Checks, unittest.TestCase):

    def test_what_is_told_of_a_tail(self):
        for many in range(4):
            for numbers in itertools.product((1, 2, 7, 8, 15), repeat=many):
                for is_start in (True, False):
                    tail = tail_of(is_start, numbers)
                    self.exactly([has_all_cells(tail), numbers_of_tail(tail), length_of(tail)], [is_start, numbers, many])

    def test_tails_along_a_line(self):
        line = (3, 15, 1, 8, 8, 2)
        for reach in range(4):
            tails = Tails(reach)
            tail = NO_CELLS
            for many in range(len(line) + 1):
                kept = line[max(0, many - reach):many]
                self.exactly([has_all_cells(tail), numbers_of_tail(tail)], [many <= reach, kept])
                if many < len(line):
                    tail = tails.room_behind(tail) + tails.digit_of(line[many])


if __name__ == "__main__":
    unittest.main()
