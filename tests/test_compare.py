import unittest

from linestrikes.books import Book
from linestrikes.compare import Parted, Stronger, alike, judge_stronger, keepers, needless, parting, trimmed
from linestrikes.errors import BadNumber, TooMany, Unlike
from linestrikes.lines import Line
from linestrikes.rules import Rule
from linestrikes.sound import Judgement, Shown
from linestrikes.values import Values
from tests.slow import is_stable_by_hand, parted_by_hand, rounds_of_double_stands
from tests.support import ABC, ABCD, OX, XO, Checks, Dice, any_values, each_line

BEHIND = Rule(XO, ["x", "xo"], 1, "x")
PAIR = Book(XO, BEHIND, -BEHIND)
HALF = Book(XO, BEHIND)
EMPTY = Book(XO)
NARROW = Rule(XO, ["x", "x"], 1, "x")
LONGEST = {2: 5, 3: 3, 4: 2}


def some_books(seed, many):
    """Pairs of books, of which many are comparable."""
    dice = Dice(seed)
    for values, widest in ((XO, 4), (ABC, 4), (ABCD, 3)):
        for _ in range(many):
            one = dice.book(values, dice.below(5), 1 + dice.below(widest))
            if dice.below(2):
                other = Book.of(values, [rule for rule in one if dice.below(3)])
                one = one if dice.below(2) else narrowed_book(one, dice)
            else:
                other = dice.book(values, dice.below(4), 1 + dice.below(widest))
            yield one, other


def narrowed_book(book, dice):
    """The book with a rule more whose pattern is narrower than that of one of its rules."""
    for rule in book:
        letters = [rule.value if at == rule.at else cell.letters[:1 + dice.below(len(cell))]
                   for at, cell in enumerate(rule.pattern)]
        more = Rule(book.alphabet, letters, rule.at, rule.value, left=rule.left, right=dice.below(2) == 0 or rule.right)
        if more not in book:
            return book + more
    return book


def is_failing(stand):
    return stand[2] and not stand[3]


def key_of(line):
    return len(line), [cell.number for cell in line]


class JudgeStronger(Checks, unittest.TestCase):

    def test_as_slow_answers(self):
        kinds = {"stronger": 0, "parted": 0}
        for one, other in some_books(131, 45):
            longest = LONGEST[len(one.alphabet)]
            judged = judge_stronger(one, other)
            kinds[judged.kind] += 1
            line = parted_by_hand(one, other, longest)
            if line:
                self.assertIs(type(judged), Parted)
                self.exactly(str(judged.line), str(line))
                self.exactly(judged.paper(), ("parted", tuple(cell.number for cell in line)))
            elif judged:
                self.assertIs(type(judged), Stronger)
                stands = [stand for some in rounds_of_double_stands(one, other) for stand in some]
                self.exactly(judged.table, tuple(sorted(stands)))
                self.exactly(judged.paper(), ("stronger", judged.table))
            else:
                self.assertTrue(len(judged.line) > longest)
                self.assertTrue(is_stable_by_hand(one, judged.line) and not is_stable_by_hand(other, judged.line))
        self.assertTrue(min(kinds.values()) > 30, kinds)

    def test_by_rounds(self):
        kinds = {}
        for one, other in some_books(132, 15):
            rounds = rounds_of_double_stands(one, other)
            total = sum(len(some) for some in rounds)
            for most in sorted({1, 2, 4, 8, 16, 30, total - 1, total, 4000}):
                if most < 1:
                    continue
                wanted, sum_so_far = "stronger", 0
                for stands in rounds:
                    if any(is_failing(stand) for stand in stands):
                        wanted = "parted"
                        break
                    sum_so_far += len(stands)
                    if sum_so_far > most:
                        wanted = "too many"
                        break
                kinds[wanted] = kinds.get(wanted, 0) + 1
                if wanted == "too many":
                    self.raises(TooMany("stands", most), judge_stronger, one, other, most=most)
                else:
                    self.exactly(judge_stronger(one, other, most=most).kind, wanted)
        self.assertTrue(len(kinds) == 3 and min(kinds.values()) > 20, kinds)

    def test_examples_widths_and_ends(self):
        self.exactly([judge_stronger(PAIR, HALF).kind, judge_stronger(one=HALF, other=PAIR).paper()],
                     ["stronger", ("parted", (3, 1))])
        self.exactly(judge_stronger(EMPTY, EMPTY).table, ((False, (), True, True, False), (True, (), False, False, False)))
        self.exactly(judge_stronger(PAIR, EMPTY).kind, "stronger")
        self.exactly(judge_stronger(EMPTY, PAIR).paper(), ("parted", (1, 1)))
        # Nothing is stable for a striker of everything.
        every = Book(XO, Rule(XO, ["xo"], 0, "x"), Rule(XO, ["o"], 0, "o"))
        self.exactly(judge_stronger(every, PAIR).table, ((True, (), False, False, False),))
        # Unlike widths: of a wider book each line of a few cells is stable.
        wide = Book(XO, Rule(XO, ["x"] * 4, 0, "x"))
        self.exactly(judge_stronger(wide, Book(XO, Rule(XO, ["x"], 0, "x"))).paper(), ("parted", (1,)))
        self.exactly(judge_stronger(Book(XO, Rule(XO, ["x"], 0, "x")), wide).kind, "stronger")
        # Ends.
        left, right = Rule(XO, ["x"], 0, "x", left=True), Rule(XO, ["x"], 0, "x", right=True)
        self.exactly(judge_stronger(Book(XO, left), Book(XO, right)).paper(), ("parted", (2, 1)))
        self.exactly(judge_stronger(Book(XO, right), Book(XO, left)).paper(), ("parted", (1, 2)))
        self.exactly(judge_stronger(Book(XO, Rule(XO, ["x"], 0, "x")), Book(XO, left, right)).kind, "stronger")
        both = Book(XO, Rule(XO, ["x"], 0, "x", left=True, right=True))
        self.exactly(judge_stronger(both, Book(XO, left)).paper(), ("parted", (1, 1)))

    def test_a_stable_window_that_no_stable_line_has(self):
        # Behind x x nothing may stand, and no line may end there: x x is in no stable line.
        one = Book(XO, Rule(XO, ["x", "x", "xo"], 2, "x"), Rule(XO, ["x", "x", "o"], 2, "o"),
                   Rule(XO, ["x", "x"], 1, "x", right=True))
        other = Book(XO, NARROW)
        judged = judge_stronger(one, other)
        self.exactly(judged.kind, "stronger")
        self.assertTrue(any(stand[4] for stand in judged.table))
        self.exactly([alike(one, other), parting(one, other)], [True, None])
        # Without the rule of the right end the line x x is stable.
        self.exactly(str(parting(Book.of(XO, one.rules[:2]), other)), "x x")

    def test_errors(self):
        for most in any_values() + [0, -1, 4001, True, False, "5", 5.0, None]:
            if type(most) is int and 1 <= most <= 4000:
                continue
            for ask in (judge_stronger, parting, alike):
                self.raises(BadNumber("most"), ask, PAIR, HALF, most=most)
                self.raises(Unlike("values"), ask, PAIR, Book(OX), most=most)
        for other in (Book(OX), Book(ABC), Book(Values("xoa"))):
            for ask in (judge_stronger, parting, alike):
                self.raises(Unlike("values"), ask, PAIR, other)
                self.raises(Unlike("values"), ask, other, PAIR, most=1)

    def test_judgements(self):
        one = judge_stronger(HALF, PAIR)
        paper = one.paper()
        one.line[0] = "x"
        self.exactly([one.paper() == paper, one == judge_stronger(HALF, PAIR), bool(one)], [True, True, False])
        self.exactly([one == judge_stronger(EMPTY, PAIR), one == judge_stronger(PAIR, HALF)], [False, False])
        self.exactly([bool(judge_stronger(PAIR, HALF)), judge_stronger(PAIR, HALF) == judge_stronger(PAIR, HALF)],
                     [True, True])
        self.assertTrue(Stronger.__bases__ == (Judgement,) and Parted.__bases__ == (Shown,))
        for thing in any_values() + [paper]:
            self.exactly([one == thing, thing == one], [False, False])


class Partings(Checks, unittest.TestCase):

    def test_the_lesser_line_of_both_ways(self):
        kinds = [0, 0, 0]
        for one, other in some_books(133, 40):
            forth, back = judge_stronger(one, other), judge_stronger(other, one)
            lines = sorted([judged.line for judged in (forth, back) if not judged], key=key_of)
            found = parting(one, other)
            kinds[len(lines)] += 1
            self.exactly(alike(one, other), not lines)
            self.exactly(alike(one=one, other=other, most=4000), found is None)
            if not lines:
                self.exactly(found, None)
            else:
                self.assertIsInstance(found, Line)
                self.exactly(str(found), str(lines[0]))
                self.assertTrue(parting(other, one) == found)
                if len(found) <= LONGEST[len(one.alphabet)]:
                    shorter = [line for length in range(1, len(found) + 1) for line in each_line(one.alphabet, length)
                               if is_stable_by_hand(one, line) != is_stable_by_hand(other, line)]
                    self.exactly(str(found), str(shorter[0]))
        self.assertTrue(min(kinds) > 10, kinds)

    def test_both_ways_part(self):
        left, right = Book(XO, Rule(XO, ["x"], 0, "x", left=True)), Book(XO, Rule(XO, ["x"], 0, "x", right=True))
        self.exactly([str(parting(left, right)), str(parting(right, left))], ["x o", "x o"])
        self.exactly(alike(PAIR, Book(XO, -BEHIND, BEHIND)), True)
        # Lines are ordered by their lengths first.
        self.exactly(str(parting(Book(XO, Rule(XO, ["x"] * 3, 0, "x")), Book(XO, Rule(XO, ["o", "o"], 0, "o")))), "o o")

    def test_too_many_of_either(self):
        many = len(judge_stronger(PAIR, HALF).table)
        for most in range(1, many):
            self.raises(TooMany("stands", most), judge_stronger, PAIR, HALF, most=most)
            for ask in (parting, alike):
                self.raises(TooMany("stands", most), ask, PAIR, HALF, most=most)
                self.raises(TooMany("stands", most), ask, HALF, PAIR, most=most)
        self.exactly([str(parting(PAIR, HALF, most=many)), str(parting(HALF, PAIR, most=many))], ["xo x", "xo x"])
        # HALF parts at lines of two cells, with fewer stands than the other way has.
        self.exactly(judge_stronger(HALF, PAIR, most=many - 1).kind, "parted")


class Needless(Checks, unittest.TestCase):

    def by_hand(self, book):
        """The needless rules, those that stand in the trimmed book, and the keepers, by alike alone."""
        numbers = tuple(k for k, rule in enumerate(book) if alike(book, book - rule))
        rest = book
        for rule in list(book)[::-1]:
            if alike(rest, rest - rule):
                rest = rest - rule
        lines = [parting(book, book - rule) for rule in book]
        return numbers, rest, lines

    def test_as_by_alike(self):
        dice = Dice(134)
        many = 0
        for values, widest in ((XO, 4), (ABC, 3), (ABCD, 2)):
            for _ in range(25):
                book = dice.book(values, dice.below(6), 1 + dice.below(widest))
                for _ in range(2):
                    book = narrowed_book(book, dice)
                rules = book.rules
                numbers, rest, lines = self.by_hand(book)
                many += len(numbers)
                self.exactly(needless(book), numbers)
                self.assertTrue(trimmed(book) == rest)
                found = keepers(book)
                self.exactly([type(found), [line and str(line) for line in found]],
                             [tuple, [line and str(line) for line in lines]])
                for line, rule in zip(found, book):
                    if line is not None:
                        self.assertTrue((book - rule).is_stable(line) and list(rule.places(line)))
                self.assertTrue(book.rules == rules and alike(trimmed(book), book))
        self.assertTrue(many > 50, many)

    def test_examples(self):
        more = PAIR + NARROW
        self.exactly([needless(more), trimmed(more) == PAIR, [str(one) for one in keepers(PAIR)]],
                     [(2,), True, ["x xo", "xo x"]])
        self.exactly([line and str(line) for line in keepers(book=more)], ["x xo", "xo x", None])
        self.exactly(needless(book=PAIR), ())
        self.assertTrue(trimmed(book=PAIR) == PAIR)

    def test_the_same_rule_with_an_end(self):
        plain = Rule(XO, ["x", "xo"], 1, "x")
        ends = [Rule(XO, ["x", "xo"], 1, "x", left=True), Rule(XO, ["x", "xo"], 1, "x", right=True)]
        book = Book(XO, ends[0], plain, ends[1])
        self.exactly([needless(book), trimmed(book) == Book(XO, plain)], [(0, 2), True])
        self.exactly(needless(Book.of(XO, ends)), ())

    def test_rules_that_make_each_other_needless(self):
        # Each of the two strikes just where the other one does: x x and its mirrored rule clash on the same lines.
        book = Book(XO, NARROW, Rule(XO, ["x", "x"], 0, "x"))
        self.exactly([needless(book), keepers(book)], [(0, 1), (None, None)])
        self.assertTrue(trimmed(book) == Book(XO, NARROW))
        turned = Book(XO, book[1], NARROW)
        self.assertTrue(trimmed(turned) == Book(XO, book[1]))
        self.exactly(needless(turned), (0, 1))

    def test_books_without_rules(self):
        self.exactly([needless(EMPTY), keepers(EMPTY), trimmed(EMPTY) == EMPTY], [(), (), True])
        self.exactly([needless(HALF), [str(line) for line in keepers(HALF)], trimmed(HALF) == HALF], [(), ["x x"], True])

    def test_keepers_may_be_changed(self):
        found = keepers(PAIR)[0]
        found[1] = "o"
        self.exactly(str(keepers(PAIR)[0]), "x xo")

    def test_too_many(self):
        # Behind each tail of three cells the line may end or not, as the cell ahead of them is a or another one.
        first = Rule(ABCD, ["a", "abcd", "abcd", "abcd"], 0, "a", right=True)
        book = Book(ABCD, first, Rule(ABCD, ["b", "b"], 0, "b"), Rule(ABCD, ["b", "b", "b"], 0, "b"))
        for ask in (needless, trimmed, keepers):
            self.raises(TooMany("stands", 4000), ask, book)
        # The empty book parts from this one at lines of four cells, but the other way has too many stands.
        book = Book(ABCD, Rule(ABCD, ["a"] * 4, 0, "a"))
        self.exactly(judge_stronger(Book(ABCD), book).paper(), ("parted", (1, 1, 1, 1)))
        for ask in (needless, trimmed):
            self.raises(TooMany("stands", 4000), ask, book)
        self.raises(TooMany("stands", 4000), alike, book, Book(ABCD))


if __name__ == "__main__":
    unittest.main()
