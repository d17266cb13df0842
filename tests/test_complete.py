import unittest

from linestrikes.books import Book
from linestrikes.clues import Machine
from linestrikes.complete import Complete, Exact, Incomplete, judge_complete, judge_exact
from linestrikes.errors import BadNumber, TooMany, Unlike
from linestrikes.kinds import Every, Few, Listed, Modulo, Neighbours, Never, Runs
from linestrikes.lines import Line
from linestrikes.rules import Rule
from linestrikes.sound import Judgement, Shown, Unsound, judge_sound
from linestrikes.values import Values
from tests.slow import (incomplete_by_hand, is_stable_by_hand, right_words_by_hand, rounds_of_stands, sets_by_hand,
                        stand_fails)
from tests.support import ABC, ABCD, OX, XO, Checks, Dice, any_values, each_line
from tests.test_sound import some_clue, sound_book

APART = Neighbours(XO, "xo", "ox", "oo")
BEHIND = Rule(XO, ["x", "xo"], 1, "x")
PAIR = Book(XO, BEHIND, -BEHIND)
HALF = Book(XO, BEHIND)
ONE = Book(XO, Rule(XO, ["xo"], 0, "x"))
EMPTY = Book(XO)


def some_pairs(seed, many):
    """Pairs of a clue and a book, of which many are complete."""
    dice = Dice(seed)
    for values, longest in ((XO, 4), (ABC, 3), (ABCD, 2)):
        for _ in range(many):
            clue = some_clue(values, dice)
            if dice.below(3):
                yield clue, sound_book(clue, dice, 8, 1 + dice.below(longest))
            else:
                yield clue, dice.book(values, dice.below(5), 1 + dice.below(longest))


def by_rounds(rounds, clue, most):
    """What judge_complete must come to: the kind, or TooMany."""
    total = 0
    for stands in rounds:
        if any(stand_fails(clue, stand) for stand in stands):
            return "incomplete"
        total += len(stands)
        if total > most:
            return "too many"
    return "complete"


class JudgeComplete(Checks, unittest.TestCase):

    def test_as_slow_answers(self):
        kinds = {"complete": 0, "incomplete": 0}
        for clue, book in some_pairs(111, 45):
            longest = {2: 5, 3: 3, 4: 2}[len(clue.alphabet)]
            judged = judge_complete(book, clue)
            kinds[judged.kind] += 1
            wanted = incomplete_by_hand(book, clue, longest)
            if wanted:
                line, place, value = wanted
                self.assertIs(type(judged), Incomplete)
                self.exactly([str(judged.line), judged.place, judged.value], [str(line), place, value])
            else:
                self.assertTrue(judged or len(judged.line) > longest)
            if judged:
                self.assertIs(type(judged), Complete)
                stands = [stand for some in rounds_of_stands(book, clue) for stand in some]
                self.exactly(judged.table, tuple(sorted(stands)))
                self.exactly(judged.paper(), ("complete", judged.table))
            else:
                numbers = tuple(cell.number for cell in judged.line)
                self.exactly(judged.sets, sets_by_hand(clue, judged.line, judged.place, judged.value))
                self.exactly(judged.paper(), ("incomplete", numbers, judged.place, judged.value, judged.sets))
        self.assertTrue(min(kinds.values()) > 20)

    def test_long_incomplete_lines(self):
        # Each wrong word is longer than all that a slow answer goes through.
        for many in (9, 20, 60):
            clue = Few(XO, "x", many)
            judged = judge_complete(EMPTY, clue)
            self.exactly(judged.paper()[:4], ("incomplete", (1,) * (many + 1), 0, "x"))
            self.exactly(judged.sets, tuple((k,) for k in range(many + 2)))
        clue = ~Listed(XO, "o" * 7 + "xo")
        judged = judge_complete(EMPTY, clue)
        self.exactly([str(judged.line), judged.place, judged.value], [" ".join("o" * 7 + "xo"), 0, "o"])

    def test_the_least_place_and_the_first_value(self):
        judged = judge_complete(striker=EMPTY, clue=Listed(XO, "xo", "ooo", "o", "x"))
        self.exactly(judged.paper(), ("incomplete", (1, 1), 0, "x", ((0,), (1,), (3,))))
        judged = judge_complete(Book(XO, Rule(XO, ["x", "x"], 0, "x")), Listed(XO, "xo", "o", "x", "oo"))
        self.exactly([str(judged.line), judged.place, judged.value], ["x xo", 1, "x"])
        judged = judge_complete(EMPTY, Listed(XO, "x"))
        self.exactly([str(judged.line), judged.place, judged.value], ["o", 0, "o"])
        judged = judge_complete(Book(OX), Never(OX))
        self.exactly([str(judged.line), judged.place, judged.value, judged.sets], ["o", 0, "o", ((0,), (0,))])
        # Cells that are open: the line x o x is right, but with open ends no right word has x in the middle.
        book = Book(XO, Rule(XO, ["x", "x"], 0, "x"), Rule(XO, ["x", "xo"], 1, "x"))
        judged = judge_complete(book, APART)
        self.exactly([str(judged.line), judged.place, judged.value], ["xo x", 0, "x"])

    def test_examples_and_widths(self):
        self.exactly(judge_complete(HALF, APART).paper(), ("incomplete", (3, 1), 0, "x", ((0,), (1,), (2,))))
        self.exactly(judge_complete(PAIR, APART).kind, "complete")
        # Width 0 and 1: the reach is 0, and only the first stand is one of all cells.
        self.exactly(judge_complete(EMPTY, Every(XO)).table,
                     ((False, (), True, (0,), False), (False, (), True, (0,), True), (True, (), False, (0,), False)))
        every = Book(XO, Rule(XO, ["xo"], 0, "x"), Rule(XO, ["o"], 0, "o"))
        self.exactly(judge_complete(every, Never(XO)).table, ((True, (), False, (0,), False),))
        self.exactly(judge_complete(every, Every(XO)).kind, "complete")
        # A rule of both ends: lines of one cell alone.
        ends = Book(XO, Rule(XO, ["xo"], 0, "x", left=True, right=True))
        self.exactly(judge_complete(ends, ~Listed(XO, "x")).kind, "complete")
        self.exactly(str(judge_complete(ends, ~Listed(XO, "x", "xx")).line), "x x")
        width = Book(XO, Rule(XO, ["xo"] * 4, 3, "x", right=True), Rule(XO, ["xo"] * 3, 2, "x", left=True, right=True),
                     Rule(XO, ["xo"] * 2, 1, "x", left=True, right=True), Rule(XO, ["xo"], 0, "x", left=True, right=True))
        clue = Machine(XO, [[1, 0], [1, 0]], [True, False])
        self.exactly(judge_complete(width, clue).kind, "complete")
        self.exactly(judge_complete(Book.of(XO, width.rules[:3]), clue).paper()[1:4], ((1,), 0, "x"))
        self.exactly(judge_complete(Book.of(XO, width.rules[1:]), clue).paper()[1:4], ((1, 1, 1, 1), 0, "x"))

    def test_what_a_complete_striker_leaves(self):
        many = 0
        for clue, book in some_pairs(112, 30):
            if len(clue.alphabet) == 2 and judge_complete(book, clue):
                many += 1
                for length in range(1, 5):
                    for line in each_line(XO, length):
                        if is_stable_by_hand(book, line):
                            words = right_words_by_hand(clue, line)
                            joined = ["".join(x for x in "xo" if any(word[k] == x for word in words)) for k in range(length)]
                            self.exactly([cell.letters for cell in line], joined)
        self.assertTrue(many > 5)

    def test_equality_and_what_is_done_to_the_line(self):
        one, other = judge_complete(HALF, APART), judge_complete(HALF, APART)
        self.exactly([one == other, one == judge_complete(PAIR, APART)], [True, False])
        paper = one.paper()
        one.line[0] = "x"
        self.exactly([one.paper() == paper, one == other, str(one.line), str(other.line)], [True, True, "x x", "xo x"])
        self.exactly(judge_complete(HALF, APART) == one, True)
        self.exactly(judge_complete(PAIR, APART) == judge_complete(-PAIR, APART), True)
        for thing in any_values() + [paper]:
            self.exactly([one == thing, thing == one], [False, False])
        self.assertTrue(Complete.__bases__ == (Judgement,) and Incomplete.__bases__ == (Shown,))
        self.assertTrue(Exact.__bases__ == (Judgement,))
        self.exactly([bool(one), one.kind, judge_complete(PAIR, APART).kind], [False, "incomplete", "complete"])


class Most(Checks, unittest.TestCase):

    def test_by_rounds(self):
        kinds = {}
        for clue, book in some_pairs(113, 25):
            rounds = rounds_of_stands(book, clue, 6)
            total = sum(len(some) for some in rounds)
            for most in sorted({1, 2, 3, 5, 9, 20, 60, total - 1, total, total + 1}):
                if not 1 <= most <= (total - 1 if rounds[-1] else total + 1):
                    continue
                wanted = by_rounds(rounds, clue, most)
                kinds[wanted] = kinds.get(wanted, 0) + 1
                if wanted == "too many":
                    error = self.raises(TooMany("stands", most), judge_complete, book, clue, most=most)
                    self.exactly(error.what, "stands")
                else:
                    self.exactly(judge_complete(book, clue, most=most).kind, wanted)
        self.assertTrue(min(kinds.values()) > 20 and len(kinds) == 3, kinds)

    def test_just_as_many_and_one_less(self):
        many = len(judge_complete(PAIR, APART).table)
        self.exactly(judge_complete(PAIR, APART, most=many).kind, "complete")
        self.raises(TooMany("stands", many - 1), judge_complete, PAIR, APART, most=many - 1)
        # The first stand alone.
        every = Book(XO, Rule(XO, ["xo"], 0, "x"), Rule(XO, ["o"], 0, "o"))
        self.exactly(len(judge_complete(every, Never(XO), most=1).table), 1)
        # A stand that fails is told ahead of too many in its round.
        self.exactly(judge_complete(EMPTY, Listed(XO, ""), most=1).kind, "incomplete")
        self.raises(TooMany("stands", 1), judge_complete, HALF, APART, most=1)
        self.exactly(judge_complete(EMPTY, Few(XO, "x", 60), most=4000).kind, "incomplete")

    def test_more_than_four_thousand(self):
        wide = Book(ABCD, Rule(ABCD, ["a", "a", "a"], 1, "a", left=True, right=True))
        clue = ~Listed(ABCD, "abcdabcdab", "bbacbdbabd", "adbdadbdabbadb")
        self.raises(TooMany("stands", 4000), judge_complete, wide, clue)
        self.raises(TooMany("stands", 4000), judge_complete, wide, Few(ABCD, "d", 60), most=4000)

    def test_errors_in_their_order(self):
        for most in any_values() + [0, -1, 4001, True, False, "5", 5.0, None]:
            if type(most) is int and 1 <= most <= 4000:
                continue
            for judge in (judge_complete, judge_exact):
                self.raises(BadNumber("most"), judge, HALF, APART, most=most)
                self.raises(BadNumber("most"), judge, ONE, APART, most=most)
                for clue in (Every(OX), Every(ABC), Never(Values("xoa"))):
                    self.raises(Unlike("values"), judge, HALF, clue, most=most)
        for clue in (Every(OX), Every(ABC)):
            self.raises(Unlike("values"), judge_complete, HALF, clue)
            self.raises(Unlike("values"), judge_exact, ONE, clue, most=1)


class JudgeExact(Checks, unittest.TestCase):

    def test_the_first_that_does_not_hold(self):
        kinds = {}
        for clue, book in some_pairs(114, 40):
            judged = judge_exact(book, clue)
            kinds[judged.kind] = kinds.get(judged.kind, 0) + 1
            sound, complete = judge_sound(book, clue), judge_complete(book, clue)
            if not sound:
                self.assertTrue(judged == sound and type(judged) is Unsound)
            elif not complete:
                self.assertTrue(judged == complete and type(judged) is Incomplete)
            else:
                self.assertIs(type(judged), Exact)
                self.assertTrue(judged.sound == sound and judged.complete == complete and judged)
                self.exactly(judged.paper(), ("exact", sound.paper(), complete.paper()))
        self.assertTrue(len(kinds) == 3 and min(kinds.values()) > 10)

    def test_a_book_that_is_neither(self):
        self.exactly(judge_exact(striker=ONE, clue=APART).kind, "unsound")
        self.exactly(judge_exact(ONE, Listed(XO, "x")).kind, "unsound")
        self.exactly(judge_exact(HALF, APART).kind, "incomplete")
        self.exactly(judge_exact(PAIR, APART).kind, "exact")

    def test_an_unsound_is_told_ahead_of_too_many(self):
        book = PAIR + Rule(XO, ["o", "o", "o"], 1, "o")
        self.raises(TooMany("stands", 2), judge_complete, book, APART, most=2)
        self.exactly(judge_exact(book, APART, most=2).paper(), ("unsound", "ooo", 0, 2))
        self.raises(TooMany("stands", 2), judge_exact, PAIR, APART, most=2)

    def test_exact_books_leave_what_right_words_leave(self):
        for length in range(1, 6):
            for line in each_line(XO, length):
                words = right_words_by_hand(APART, line)
                left = ["".join(x for x in "xo" if any(word[k] == x for word in words)) for k in range(length)]
                if words:
                    self.exactly([cell.letters for cell in PAIR(line)], left)
        self.exactly(judge_exact(PAIR, APART) == judge_exact(PAIR, APART), True)


if __name__ == "__main__":
    unittest.main()
