"""The functions of complete, check_complete, compare and stable with best strikers."""

import unittest

from linestrikes.best import Best
from linestrikes.books import Book
from linestrikes.check_complete import shows_complete, shows_exact, shows_incomplete
from linestrikes.check_compare import shows_parted, shows_stronger
from linestrikes.compare import alike, judge_stronger, parting
from linestrikes.complete import Complete, Exact, Incomplete, judge_complete, judge_exact
from linestrikes.errors import BadNumber, TooMany, Unlike
from linestrikes.kinds import Every, Few, Listed, Modulo, Neighbours, Never, Runs
from linestrikes.lines import Line
from linestrikes.rules import Rule
from linestrikes.stable import stable_lines
from linestrikes.supports import left_by
from linestrikes.values import Values
from tests.slow import incomplete_as_told, is_stable_by_hand, right_words_by_hand, sets_by_hand
from tests.slow_strikers import SlowBest, SlowBook, complete_told, parted_by_two, rounds_of_striker, rounds_of_two
from tests.support import ABC, ABCD, OX, XO, Checks, Dice, any_values, each_line, mutants
from tests.test_complete import by_rounds
from tests.test_sound import some_clue, sound_book

APART = Neighbours(XO, "xo", "ox", "oo")
TWO = Runs(XO, "x", 2)
BEHIND = Rule(XO, ["x", "xo"], 1, "x")
PAIR = Book(XO, BEHIND, -BEHIND)
HALF = Book(XO, BEHIND)
BEST = Best(APART, 2)
LONGEST = {2: 4, 3: 2, 4: 1}


def best_pairs(seed, many):
    """Triples of a clue, a best striker and the slow one; not always that of the same clue."""
    dice = Dice(seed)
    for values, widest in ((XO, 3), (ABC, 2), (ABCD, 1)):
        for clue in (Never(values), Listed(values, ""), Every(values)):
            for width in range(1, widest + 1):
                yield clue, Best(clue, width), SlowBest(clue, width)
        for _ in range(many):
            clue = some_clue(values, dice)
            other = clue if dice.below(4) else some_clue(values, dice)
            width = 1 + dice.below(widest)
            yield other, Best(clue, width), SlowBest(clue, width)


def incomplete_by_lines(slow, clue, longest):
    """The least stable line of at most so many cells with a value that no right word has; with its place and value."""
    for length in range(1, longest + 1):
        for line in each_line(clue.alphabet, length):
            if slow.is_stable(line):
                words = right_words_by_hand(clue, line)
                for place, cell in enumerate(line):
                    for value in cell.letters:
                        if not any(word[place] == value for word in words):
                            return line, place, value
    return None


class JudgedComplete(Checks, unittest.TestCase):

    def test_as_slow_answers(self):
        kinds = {"complete": 0, "incomplete": 0}
        for clue, best, slow in best_pairs(231, 25):
            judged = judge_complete(best, clue)
            kinds[judged.kind] += 1
            least = incomplete_by_lines(slow, clue, LONGEST[len(clue.alphabet)])
            if least:
                line, place, value = least
                self.assertIs(type(judged), Incomplete)
                numbers = tuple(cell.number for cell in line)
                self.exactly(judged.paper(), ("incomplete", numbers, place, value, sets_by_hand(clue, line, place, value)))
                self.exactly(shows_incomplete(best, clue, judged.paper()[1:]), True)
            elif judged:
                self.assertIs(type(judged), Complete)
                stands = [stand for some in rounds_of_striker(slow, clue) for stand in some]
                self.exactly(judged.table, tuple(sorted(stands)))
                self.exactly(shows_complete(best, clue, judged.table), True)
            else:
                self.assertTrue(len(judged.line) > LONGEST[len(clue.alphabet)] and best.is_stable(judged.line))
        self.assertTrue(min(kinds.values()) > 20, kinds)

    def test_by_rounds(self):
        kinds = {}
        for clue, best, slow in best_pairs(232, 8):
            rounds = rounds_of_striker(slow, clue)
            total = sum(len(some) for some in rounds)
            for most in sorted({1, 2, 5, 12, 30, total - 1, total}):
                if most < 1:
                    continue
                wanted = by_rounds(rounds, clue, most)
                kinds[wanted] = kinds.get(wanted, 0) + 1
                if wanted == "too many":
                    self.raises(TooMany("stands", most), judge_complete, best, clue, most=most)
                    self.raises(TooMany("stands", most), judge_exact, best, clue, most=most)
                else:
                    self.exactly(judge_complete(best, clue, most=most).kind, wanted)
        self.assertTrue(len(kinds) == 3 and min(kinds.values()) > 20, kinds)

    def test_exact_without_a_sound_judgement(self):
        many = 0
        for clue, best, _ in best_pairs(233, 15):
            judged = judge_complete(best, clue)
            found = judge_exact(best, clue)
            if judged:
                many += 1
                self.assertIs(type(found), Exact)
                self.exactly([found.kind, found.sound, found.paper(), bool(found)],
                             ["exact", None, ("exact", None, judged.paper()), True])
                self.assertTrue(found.complete == judged)
                self.exactly(shows_exact(best, clue, (None, judged.table)), True)
                for sound in ((), ((), ()), False, 0, "", ("sound", (), ())):
                    self.exactly(shows_exact(best, clue, (sound, judged.table)), False)
                self.exactly([shows_exact(best, clue, (None, judged.table[1:])), shows_exact(best, clue, judged.table)],
                             [False, False])
            else:
                self.assertTrue(found == judged and type(found) is Incomplete)
        self.assertTrue(many > 20, many)

    def test_exact_ones_leave_what_right_words_leave(self):
        dice = Dice(234)
        many = 0
        for clue, best, _ in best_pairs(235, 30):
            if best.clue == clue and judge_exact(best, clue):
                many += 1
                for _ in range(8):
                    line = dice.line(clue.alphabet, 1 + dice.below(6 if len(clue.alphabet) == 2 else 3))
                    left = left_by(clue, line)
                    self.exactly(left is None, list(stable_lines(best, line)) == [])
                    if left is not None:
                        self.assertTrue(best(line) == left)
                        self.exactly(best.is_stable(line), left == line)
        self.assertTrue(many > 20, many)

    def test_example_and_widths(self):
        self.exactly([judge_exact(BEST, APART).kind, len(judge_complete(BEST, APART).table)], ["exact", 24])
        even = Modulo(XO, "x", 2)
        self.exactly([str(judge_complete(Best(even, width), even).line) for width in (1, 2, 3, 4)],
                     ["x o", "x x x", "x x x o", "x x x x x"])
        self.exactly([judge_complete(Best(TWO, width), TWO).kind for width in (1, 2, 3, 4)], ["incomplete"] * 4)
        # Too narrow for what the book tells.
        self.exactly(judge_complete(Best(APART, 1), APART).paper(), ("incomplete", (1, 1), 0, "x", ((0,), (1,), (2,))))

    def test_tails_and_reaches(self):
        for width in (1, 2, 3, 4):
            for clue in (APART, Every(XO)):
                table = judge_complete(Best(clue, width), clue).table if clue == Every(XO) or width > 1 else ()
                for is_start, tail, may_end, _, _ in table:
                    self.assertTrue(len(tail) <= width - 1 and (is_start or len(tail) == width - 1))
                    self.assertFalse(may_end and is_start and len(tail) == 0)
                lengths = {len(stand[1]) for stand in table}
                self.exactly(lengths, set(range(width)) if table else set())
        # A beginning of fewer cells strikes nothing, though no line may end there.
        table = judge_complete(Best(Listed(XO, "xo"), 3), Listed(XO, "xo")).table
        self.assertIn((True, (3,), False, (1, 2), False), table)
        self.assertTrue({stand[1] for stand in table if stand[0]} >= {(), (1,), (2,), (3,), (1, 2), (3, 3)})
        self.exactly({stand[1] for stand in table if stand[2]}, {(1, 2)})
        self.exactly([stand for stand in table if not stand[0]], [])
        self.exactly(judge_complete(Best(Never(XO), 1), Never(XO)).table, ((True, (), False, (0,), False),))
        self.exactly({stand[1] for stand in judge_complete(Best(Never(XO), 2), Never(XO)).table}, {(), (1,), (2,), (3,)})

    def test_errors(self):
        for most in any_values() + [0, 4001, True, "5"]:
            if type(most) is int and 1 <= most <= 4000:
                continue
            self.raises(BadNumber("most"), judge_complete, BEST, APART, most=most)
            self.raises(BadNumber("most"), judge_exact, BEST, APART, most=most)
            self.raises(Unlike("values"), judge_exact, BEST, Every(OX), most=most)
        for clue in (Every(OX), Every(ABC), Every(Values("xoa"))):
            for ask in (judge_complete, judge_exact):
                self.raises(Unlike("values"), ask, BEST, clue)
            for look in (shows_complete, shows_incomplete, shows_exact):
                self.raises(Unlike("values"), look, BEST, clue, None)


class ShownComplete(Checks, unittest.TestCase):

    def test_each_change(self):
        many = 0
        for clue, best, slow in best_pairs(236, 12):
            judged = judge_complete(best, clue)
            if judged and len(judged.table) < 14:
                many += 1
                for thing in mutants(judged.table):
                    self.exactly(shows_complete(best, clue, thing), complete_told(slow, clue, thing), thing)
        self.assertTrue(many > 8, many)

    def test_each_stand_left_out_and_further_stands(self):
        dice = Dice(237)
        answers = [0, 0]
        for clue, best, slow in best_pairs(238, 10):
            judged = judge_complete(best, clue)
            if not judged or len(judged.table) > 60:
                continue
            table = judged.table
            self.exactly(shows_complete(best, clue, table[::-1]), True)
            for k in range(len(table)):
                self.exactly(shows_complete(best, clue, table[:k] + table[k + 1:]), False)
            for _ in range(30):
                tail = tuple(1 + dice.below(clue.alphabet.full.number) for _ in range(dice.below(best.width + 1)))
                states = tuple(k for k in range(len(clue)) if dice.below(2))
                more = (dice.below(2) == 0, tail, dice.below(2) == 0, states, dice.below(2) == 0)
                if more not in table:
                    wanted = complete_told(slow, clue, table + (more,))
                    self.exactly(shows_complete(best, clue, table + (more,)), wanted)
                    answers[wanted] += 1
        self.assertTrue(min(answers) > 10, answers)

    def test_incomplete_lines(self):
        answers = [0, 0]
        dice = Dice(239)
        for _ in range(20):
            clue = some_clue(XO, dice)
            best, slow = Best(clue, 1), SlowBest(clue, 1)
            for line in each_line(XO, 3):
                numbers = tuple(cell.number for cell in line)
                for place in range(3):
                    for value in line[place].letters:
                        thing = (numbers, place, value, sets_by_hand(clue, line, place, value))
                        wanted = slow.is_stable(line) and incomplete_as_told(Book(XO), clue, thing)
                        self.exactly(shows_incomplete(best, clue, thing), wanted)
                        answers[wanted] += 1
        self.assertTrue(min(answers) > 100, answers)


class Compared(Checks, unittest.TestCase):

    def some_strikers(self, seed, many):
        """Quadruples of two strikers, one of them a best one at least, and the slow ones."""
        dice = Dice(seed)
        for values, widest in ((XO, 3), (ABC, 2)):
            for _ in range(many):
                clue = some_clue(values, dice)
                best = Best(clue, 1 + dice.below(widest))
                slow = SlowBest(clue, best.width)
                kind = dice.below(4)
                if kind == 0:
                    book = sound_book(clue, dice, 4, 1 + dice.below(widest))
                elif kind == 1:
                    book = dice.book(values, dice.below(4), 1 + dice.below(widest + 1))
                else:
                    book = Best(clue if kind == 2 else some_clue(values, dice), 1 + dice.below(widest))
                slow_book = SlowBook(book) if isinstance(book, Book) else SlowBest(book.clue, book.width)
                yield best, slow, book, slow_book
                yield book, slow_book, best, slow

    def test_as_slow_answers(self):
        kinds = {"stronger": 0, "parted": 0}
        for one, slow_one, other, slow_other in self.some_strikers(241, 20):
            longest = LONGEST[len(one.alphabet)]
            judged = judge_stronger(one, other)
            kinds[judged.kind] += 1
            line = parted_by_two(slow_one, slow_other, longest)
            if line:
                self.exactly(judged.paper(), ("parted", tuple(cell.number for cell in line)))
                self.exactly(shows_parted(one, other, judged.paper()[1]), True)
            elif judged:
                stands = [stand for some in rounds_of_two(slow_one, slow_other) for stand in some]
                self.exactly(judged.table, tuple(sorted(stands)))
                self.exactly(shows_stronger(one, other, judged.table), True)
            else:
                self.assertTrue(len(judged.line) > longest and one.is_stable(judged.line))
                self.assertFalse(other.is_stable(judged.line))
        self.assertTrue(min(kinds.values()) > 25, kinds)

    def test_by_rounds(self):
        kinds = {}
        for one, slow_one, other, slow_other in self.some_strikers(242, 5):
            rounds = rounds_of_two(slow_one, slow_other)
            total = sum(len(some) for some in rounds)
            for most in sorted({1, 3, 8, 20, total - 1, total}):
                if most < 1:
                    continue
                wanted, so_far = "stronger", 0
                for stands in rounds:
                    if any(stand[2] and not stand[3] for stand in stands):
                        wanted = "parted"
                        break
                    so_far += len(stands)
                    if so_far > most:
                        wanted = "too many"
                        break
                kinds[wanted] = kinds.get(wanted, 0) + 1
                if wanted == "too many":
                    self.raises(TooMany("stands", most), judge_stronger, one, other, most=most)
                else:
                    self.exactly(judge_stronger(one, other, most=most).kind, wanted)
        self.assertTrue(len(kinds) == 3, kinds)

    def test_parting_and_alike(self):
        kinds = [0, 0, 0]
        for one, _, other, _ in self.some_strikers(243, 12):
            lines = [judged.line for judged in (judge_stronger(one, other), judge_stronger(other, one)) if not judged]
            kinds[len(lines)] += 1
            found = parting(one, other)
            self.exactly(alike(one, other), lines == [])
            if lines:
                least = min(lines, key=lambda line: (len(line), [cell.number for cell in line]))
                self.assertTrue(found == least)
            else:
                self.exactly(found, None)
        self.assertTrue(min(kinds) > 3, kinds)

    def test_facts(self):
        """Best strikers are stronger than sound books of their width, and the wider ones than narrower ones."""
        dice = Dice(244)
        for values, widest in ((XO, 3), (ABC, 2)):
            for _ in range(10):
                clue = some_clue(values, dice)
                for width in range(1, widest + 1):
                    best = Best(clue, width)
                    self.assertTrue(judge_stronger(best, sound_book(clue, dice, 5, width)))
                    self.assertTrue(judge_stronger(Best(clue, min(width + 1, widest)), best))
                    self.assertTrue(alike(best, Best(-(-clue), width)))
        # Two exact strikers are alike.
        self.exactly([alike(BEST, PAIR), alike(Best(APART, 4), PAIR), alike(BEST, HALF), str(parting(HALF, BEST)),
                      judge_stronger(HALF, BEST).paper()], [True, True, False, "xo x", ("parted", (3, 1))])

    def test_short_lines_beside_wide_strikers(self):
        wide = Book(XO, Rule(XO, ["x"] * 4, 0, "x"))
        clue = Listed(XO, "xo", "o")
        for width in (1, 2, 3, 4):
            slow_best, slow_wide = SlowBest(clue, width), SlowBook(wide)
            for one, other, slow_one, slow_other in ((Best(clue, width), wide, slow_best, slow_wide),
                                                     (wide, Best(clue, width), slow_wide, slow_best)):
                judged = judge_stronger(one, other)
                line = parted_by_two(slow_one, slow_other, 5)
                self.exactly(None if judged else str(judged.line), line and str(line))
                if judged:
                    stands = [stand for some in rounds_of_two(slow_one, slow_other) for stand in some]
                    self.exactly(judged.table, tuple(sorted(stands)))

    def test_errors(self):
        for most in (0, 4001, True, None, "1", 5.0):
            for ask in (judge_stronger, parting, alike):
                self.raises(BadNumber("most"), ask, BEST, PAIR, most=most)
                self.raises(Unlike("values"), ask, BEST, Book(OX), most=most)
        for other in (Best(Every(OX), 1), Book(ABC), Best(Every(Values("xoa")), 2)):
            for ask in (judge_stronger, parting, alike):
                self.raises(Unlike("values"), ask, BEST, other)
                self.raises(Unlike("values"), ask, other, PAIR)
        self.raises(TooMany("stands", 3), alike, BEST, PAIR, most=3)


class StableLines(Checks, unittest.TestCase):

    def test_as_slow_answers(self):
        dice = Dice(245)
        for clue, best, slow in best_pairs(246, 10):
            for length in range(1, 6 if len(clue.alphabet) == 2 else 3):
                line = dice.line(clue.alphabet, length)
                wanted = [str(one) for one in each_line(clue.alphabet, length) if one.within(line) and slow.is_stable(one)]
                self.exactly([str(one) for one in stable_lines(best, line)], wanted)
        self.exactly([str(one) for one in stable_lines(BEST, Line.free(XO, 2))],
                     ["x o", "o x", "o o", "o xo", "xo o", "xo xo"])
        self.exactly(is_stable_by_hand(PAIR, Line.free(XO, 2)), True)
        self.exactly(len(list(stable_lines(Best(Few(XO, "x", 1), 2), Line.free(XO, 6)))) > 0, True)


if __name__ == "__main__":
    unittest.main()
