"""What strikes lines."""

from linestrikes.checks import same_values
from linestrikes.errors import Clash
from linestrikes.lines import Narrower, line_of
from linestrikes.values import numbers_of


class Striker(Narrower):
    """The base of all strikers. A class below it tells by five methods what it strikes.

    A line is told by the numbers of its cells, a strike by what strikes yields for it.
    """

    def __init__(self, alphabet, width):
        self.alphabet = alphabet
        self.width = width

    def first_strike(self, numbers, start):
        """The first strike of a line in which none is ahead of the place start; None if there is none."""
        raise NotImplementedError("each kind of striker has its own strikes")

    def all_strikes(self, numbers):
        """The list of all strikes of a line, in order."""
        raise NotImplementedError("each kind of striker has its own strikes")

    def target(self, strike):
        """The index of the cell that a strike strikes, and the number of the value there."""
        raise NotImplementedError("each kind of striker has its own strikes")

    def cause_of(self, strike):
        """The error that tells of a strike that would leave an empty cell."""
        raise NotImplementedError("each kind of striker has its own causes")

    def walked(self):
        """The windows of lines that are walked through cell by cell, new ones."""
        raise NotImplementedError("each kind of striker has its own windows")

    def is_stable(self, line):
        """Whether nothing strikes."""
        same_values(self, line)
        return self.first_strike(numbers_of(line), 0) is None

    def __call__(self, line):
        left = line.copy()
        self.narrowed(left)
        return left

    def narrowed(self, line):
        """Makes the line itself what is left of it."""
        same_values(self, line)
        done, numbers, clash = self.followed(numbers_of(line))
        if clash is not None:
            cause = self.cause_of(done[-1])
            raise Clash(clash) from cause
        left = line_of(line.alphabet, numbers)
        line.held = left.held

    def strikes(self, line):
        """The strikes that lead from the line to what is left."""
        for strike in self.each_strike(line):
            yield strike

    def each_strike(self, line):
        """The same for strikes, which each class below may tell anew."""
        same_values(self, line)
        done, _, clash = self.followed(numbers_of(line))
        carried_out = done if clash is None else done[:-1]
        for strike in carried_out:
            yield strike
        if clash is not None:
            cause = self.cause_of(done[-1])
            raise Clash(clash) from cause

    def rounds(self, line):
        """The lines behind the rounds in which all strikes of a line are made at once."""
        same_values(self, line)
        values = line.alphabet
        numbers = numbers_of(line)
        found = self.all_strikes(numbers)
        while found:
            numbers = self.struck_at_once(numbers, found)
            yield line_of(values, numbers)
            found = self.all_strikes(numbers)

    def followed(self, numbers):
        """The list of the strikes, in order; the numbers that are left; the place of a clash, otherwise None.

        With a clash the last strike is the one that is not done.
        """
        left = list(numbers)
        done = []
        strike = self.first_strike(left, 0)
        while strike is not None:
            done.append(strike)
            place, bit = self.target(strike)
            if left[place] == bit:
                return done, left, place
            left[place] = left[place] & ~bit
            # No window that ends ahead of this cell has changed.
            strike = self.first_strike(left, max(0, place - self.width + 1))
        return done, left, None

    def struck_at_once(self, numbers, found):
        """The numbers behind a round with the strikes that were found."""
        left = list(numbers)
        for strike in found:
            place, bit = self.target(strike)
            left[place] = left[place] & ~bit
        if 0 in left:
            empty = left.index(0)
            firsts = [strike for strike in found if self.target(strike)[0] == empty]
            cause = self.cause_of(firsts[0])
            raise Clash(empty) from cause
        return left
