"""Books of rules."""

from linestrikes.checks import is_from, same_values
from linestrikes.errors import BadBook, NoRule, Struck
from linestrikes.rules import Rule
from linestrikes.strikers import Striker
from linestrikes.values import Values
from linestrikes.windows import BookWindows


class Book(Striker):
    """A list of rules without duplicates. Its strikes are pairs of a place and the number of a rule."""

    MOST = 40

    def __init__(self, values, *rules):
        if not isinstance(values, Values) or len(rules) > Book.MOST:
            raise BadBook(None)
        for at, rule in enumerate(rules):
            if not isinstance(rule, Rule) or rule.alphabet != values or rule in rules[:at]:
                raise BadBook(at)
        Striker.__init__(self, values, max([len(rule.pattern) for rule in rules], default=0))
        self.kept = rules

    @classmethod
    def of(cls, values, rules):
        """The book of a list or tuple of rules."""
        if not isinstance(rules, (list, tuple)):
            raise BadBook(None)
        return Book(values, *rules)

    @property
    def rules(self):
        """The tuple of the rules."""
        return self.kept

    def __len__(self):
        return len(self.kept)

    def __iter__(self):
        return iter(self.kept)

    def __getitem__(self, at):
        if not is_from(at, 0, len(self.kept) - 1):
            raise NoRule(at)
        return self.kept[at]

    def __contains__(self, x):
        return x in self.kept

    def __eq__(self, other):
        return isinstance(other, Book) and self.alphabet == other.alphabet and self.kept == other.kept

    def __add__(self, other):
        longer = [*self.kept, other]
        return Book(self.alphabet, *longer)

    def __sub__(self, other):
        if other not in self.kept:
            raise NoRule(other)
        rest = [rule for rule in self.kept if rule != other]
        return Book(self.alphabet, *rest)

    def __or__(self, other):
        same_values(self, other)
        together = list(self.kept) + [rule for rule in other.kept if rule not in self.kept]
        return Book(self.alphabet, *together)

    def __neg__(self):
        mirrored = [-rule for rule in self.kept]
        return Book(self.alphabet, *mirrored)

    def renamed(self, names):
        """The book with other letters."""
        values = self.alphabet.renamed(names)
        rules = [rule.renamed(names) for rule in self.kept]
        return Book(values, *rules)

    def first_strike(self, numbers, start):
        """The first strike of a line in which none is ahead of the place start; None if there is none."""
        for place in range(start, len(numbers)):
            for number, rule in enumerate(self.kept):
                if rule.hits_at(numbers, place):
                    return place, number
        return None

    def all_strikes(self, numbers):
        """The list of all strikes of a line, in order."""
        return [(place, number) for place in range(len(numbers)) for number, rule in enumerate(self.kept)
                if rule.hits_at(numbers, place)]

    def target(self, strike):
        """The index of the cell that a strike strikes, and the number of the value there."""
        place, number = strike
        rule = self.kept[number]
        return place + rule.at, rule.bit

    def cause_of(self, strike):
        """The error that tells of a strike that would leave an empty cell."""
        place, number = strike
        return Struck(place, number)

    def walked(self):
        """The windows of lines that are walked through cell by cell: rules are told by their numbers."""
        return BookWindows(self.kept, self.alphabet.full.number)
