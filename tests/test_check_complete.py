import unittest

from linestrikes.books import Book
from linestrikes.check_complete import shows_complete, shows_exact, shows_incomplete
from linestrikes.complete import judge_complete, judge_exact
from linestrikes.compare import alike, judge_stronger, parting
from linestrikes.errors import Unlike
from linestrikes.kinds import Every, Few, Neighbours, Never
from linestrikes.lines import Line
from linestrikes.rules import Rule
from linestrikes.sound import judge_sound
from linestrikes.stable import stable_lines
from linestrikes.strikers import Striker
from linestrikes.values import Values
from tests.slow import complete_as_told, incomplete_as_told, sets_by_hand
from tests.support import ABC, OX, XO, Checks, Dice, any_values, each_line, mutants
from tests.test_sound import some_clue, sound_book

APART = Neighbours(XO, "xo", "ox", "oo")
BEHIND = Rule(XO, ["x", "xo"], 1, "x")
PAIR = Book(XO, BEHIND, -BEHIND)
HALF = Book(XO, BEHIND)
EMPTY = Book(XO)
TABLE = judge_complete(PAIR, APART).table
FIRST = (True, (), False, (0,), False)


def complete_pairs(seed, many):
    """Pairs of a clue and a book that is complete for it, with not too many stands."""
    dice = Dice(seed)
    found = []
    while len(found) < many:
        clue = some_clue(XO, dice)
        book = sound_book(clue, dice, 8, 1 + dice.below(3))
        judged = judge_complete(book, clue)
        if judged and len(judged.table) < 60:
            found.append((clue, book, judged.table))
    return found


class ShowsComplete(Checks, unittest.TestCase):

    def test_what_judge_complete_tells_in_any_order(self):
        dice = Dice(121)
        for clue, book, table in complete_pairs(122, 40):
            mixed = list(table)
            for k in range(len(mixed)):
                j = dice.below(len(mixed))
                mixed[k], mixed[j] = mixed[j], mixed[k]
            self.exactly([shows_complete(book, clue, table), shows_complete(book, clue, table[::-1]),
                          shows_complete(book, clue, tuple(mixed))], [True, True, True])
            self.exactly(shows_complete(striker=book, clue=clue, thing=table), True)
            self.exactly([shows_complete(book, clue, list(table)), shows_complete(book, clue, ("complete", table))],
                         [False, False])

    def test_each_stand_left_out_or_twice(self):
        for clue, book, table in complete_pairs(123, 25):
            for k in range(len(table)):
                self.exactly(shows_complete(book, clue, table[:k] + table[k + 1:]), False)
                self.exactly(shows_complete(book, clue, table + table[k:k + 1]), False)

    def test_each_change(self):
        for clue, book, table in complete_pairs(124, 12):
            if len(table) > 14:
                continue
            for thing in mutants(table):
                self.exactly(shows_complete(book, clue, thing), complete_as_told(book, clue, thing), thing)

    def test_further_stands(self):
        dice = Dice(125)
        answers = [0, 0]
        for clue, book, table in complete_pairs(126, 30):
            for _ in range(40):
                tail = tuple(1 + dice.below(3) for _ in range(dice.below(3)))
                states = tuple(k for k in range(len(clue)) if dice.below(2))
                more = (dice.below(2) == 0, tail, dice.below(2) == 0, states, dice.below(2) == 0)
                if more not in table:
                    thing = table + (more,)
                    wanted = complete_as_told(book, clue, thing)
                    self.exactly(shows_complete(book, clue, thing), wanted, thing)
                    answers[wanted] += 1
        self.assertTrue(min(answers) > 20, answers)

    def test_stands_that_need_not_come(self):
        # No states at all: a mark could not be put ahead of them, and the line must not end.
        rule = Rule(XO, ["xo"], 0, "x")
        all_struck = Book(XO, rule, Rule(XO, ["o"], 0, "o"))
        table = judge_complete(all_struck, Never(XO)).table
        self.exactly([table, shows_complete(all_struck, Never(XO), table)], [(FIRST,), True])
        for more in ((True, (), True, (0,), False), (False, (), False, (0,), True), (False, (), True, (), False),
                     (False, (), False, (), True), (True, (), False, (0,), True)):
            self.exactly(shows_complete(all_struck, Never(XO), table + (more,)), True, more)
        for more in ((False, (), True, (0,), True), (False, (), True, (), True), (False, (1,), False, (), False),
                     (False, (), False, (1,), False), (0, (), False, (), False), (False, (), 0, (), False),
                     (False, (), False, (), 0), (False, [], False, (), False), (False, (), False, [], False),
                     (False, (), False, (False,), False), (False, (), False, (0, 0), False), (False, (), False, ()),
                     (False, (), False, (), False, False), [False, (), False, (), False], None, (), "", FIRST):
            self.exactly(shows_complete(all_struck, Never(XO), table + (more,)), False, more)
        self.exactly(shows_complete(all_struck, Never(XO), ((False, (), False, (0,), False),)), False)

    def test_tails(self):
        # The reach is 1: a tail has one cell, or none if it is all cells.
        self.assertTrue(shows_complete(PAIR, APART, TABLE))
        known = {(stand[0], stand[1]) for stand in TABLE}
        self.exactly(known, {(True, ()), (True, (1,)), (True, (2,)), (True, (3,)), (False, (1,)), (False, (2,)),
                             (False, (3,))})
        # What comes behind a cell o is in the table, so only the tail can be wrong.
        self.exactly(shows_complete(PAIR, APART, TABLE + ((False, (2,), False, (0,), False),)), True)
        for tail in ((0,), (4,), (2, 2), (True,), ("2",), (None,), ((2,),), [2], "2", 2, None, (-2,), ()):
            self.exactly(shows_complete(PAIR, APART, TABLE + ((False, tail, False, (0,), False),)), False, tail)
        self.exactly(shows_complete(PAIR, APART, TABLE + ((True, (1, 1), False, (2,), False),)), False)
        # What comes behind no states has none.
        more = tuple((start, tail, end, (), False) for start, tail, end, _, _ in
                     {(start, tail, end, 0, 0) for start, tail, end, _, _ in TABLE})
        self.exactly(shows_complete(PAIR, APART, TABLE + more), False)

    def test_not_complete(self):
        for most in (1, 2):
            stands = TABLE[most:]
            self.exactly(shows_complete(HALF, APART, stands), False)
        self.exactly([shows_complete(HALF, APART, TABLE), shows_complete(EMPTY, APART, TABLE)], [False, False])
        self.exactly(shows_complete(PAIR, Every(XO), TABLE), False)

    def test_other_values(self):
        for thing in any_values():
            self.exactly(shows_complete(PAIR, APART, thing), False)
            self.exactly(shows_complete(PAIR, APART, TABLE + (thing,)), False)
            self.exactly(shows_complete(EMPTY, Every(XO), thing), False)
            self.exactly(shows_incomplete(HALF, APART, thing), False)
            self.exactly(shows_exact(PAIR, APART, thing), False)

    def test_unlike_values_are_ahead(self):
        for clue in (Every(OX), Every(ABC), Never(Values("xoa"))):
            for thing in (TABLE, None, ((3, 1), 0, "x", ((0,), (1,), (2,))), ((), ())):
                for look in (shows_complete, shows_incomplete, shows_exact):
                    self.raises(Unlike("values"), look, PAIR, clue, thing)


class ShowsIncomplete(Checks, unittest.TestCase):

    def test_any_line_place_and_value(self):
        dice = Dice(127)
        answers = [0, 0]
        for _ in range(40):
            clue = some_clue(XO, dice)
            book = sound_book(clue, dice, 2, 3)
            judged = judge_complete(book, clue)
            if not judged:
                self.exactly(shows_incomplete(striker=book, clue=clue, thing=judged.paper()[1:]), True)
                self.exactly(shows_incomplete(book, clue, judged.paper()), False)
            for length in (1, 2, 3):
                for line in each_line(XO, length):
                    numbers = tuple(cell.number for cell in line)
                    for place in range(length):
                        for value in "xo":
                            if value in line[place]:
                                thing = (numbers, place, value, sets_by_hand(clue, line, place, value))
                                wanted = incomplete_as_told(book, clue, thing)
                                self.exactly(shows_incomplete(book, clue, thing), wanted)
                                answers[wanted] += 1
        self.assertTrue(min(answers) > 200)

    def test_each_change(self):
        dice = Dice(128)
        answers = [0, 0]
        for _ in range(25):
            clue = some_clue(XO, dice)
            book = sound_book(clue, dice, 3, 3)
            judged = judge_complete(book, clue)
            if not judged:
                for thing in mutants(judged.paper()[1:]):
                    wanted = incomplete_as_told(book, clue, thing)
                    self.exactly(shows_incomplete(book, clue, thing), wanted, thing)
                    answers[wanted] += 1
        self.assertTrue(answers[0] > 1000, answers)

    def test_parts(self):
        good = ((3, 1), 0, "x", ((0,), (1,), (2,)))
        self.exactly(shows_incomplete(HALF, APART, good), True)
        numbers, place, value, sets = good
        for other in ((), (0, 1), (3, 4), (True, 1), (3, True), [3, 1], (3,), (3, 1, 1), "31", 3, None, (3, None), (1, 3),
                      (-1, 1), (3, "1"), (1, 1)):
            self.exactly(shows_incomplete(HALF, APART, (other, place, value, sets)), False, other)
        for other in (1, 2, -1, -2, False, None, "0", (0,)):
            self.exactly(shows_incomplete(HALF, APART, (numbers, other, value, sets)), False, other)
        for other in ("o", "", "xo", "a", None, 0, ["x"], ("x",), XO.cell("x")):
            self.exactly(shows_incomplete(HALF, APART, (numbers, place, other, sets)), False, other)
        for other in (((0,), (1,), (1, 2)), ((0,), (1, 2), (2,)), ((0,), (1,)), ((0,), (1,), (2,), (2,)), ((0,), (1,), ()),
                      ((0,), [1], (2,)), [(0,), (1,), (2,)], ((False,), (1,), (2,)), ((0,), (True,), (2,)), (), None,
                      ((0,), (1,), (2, 2)), ((0, 1), (1, 2), (2,))):
            self.exactly(shows_incomplete(HALF, APART, (numbers, place, value, other)), False, other)
        self.exactly([shows_incomplete(HALF, APART, good[:3]), shows_incomplete(HALF, APART, list(good)),
                      shows_incomplete(HALF, APART, good + (0,))], [False, False, False])
        # The line is not stable, or the last state is told.
        self.exactly(shows_incomplete(PAIR, APART, good), False)
        self.exactly(shows_incomplete(HALF, APART, ((3, 2), 0, "x", ((0,), (1,), (0,)))), False)
        # More sets of states than there must be are not let here.
        self.exactly(shows_incomplete(HALF, APART, ((3, 1, 2), 0, "x", ((0,), (1,), (2,), (2,)))), True)

    def test_long_lines(self):
        clue = Few(XO, "x", 3)
        sets = tuple((min(k, 4),) for k in range(4002))
        self.exactly(shows_incomplete(EMPTY, clue, ((1,) * 4001, 4000, "x", sets)), True)
        self.exactly(shows_incomplete(EMPTY, clue, ((1,) * 4002, 4000, "x", sets + ((4,),))), False)


class ShowsExact(Checks, unittest.TestCase):

    def test_pairs_of_what_the_others_take(self):
        for clue, book, table in complete_pairs(129, 15):
            sound = judge_sound(book, clue)
            parts = (sound.lost, sound.rows)
            self.exactly(judge_exact(book, clue).kind, "exact")
            self.exactly(shows_exact(striker=book, clue=clue, thing=(parts, table)), True)
            self.exactly(shows_exact(book, clue, (parts, table[::-1])), True)
            for thing in ((table, parts), (parts,), (parts, table, table), [parts, table], (None, table), (parts, None),
                          (list(parts), table), (parts, list(table)), (sound.paper(), table), (parts, table[1:]),
                          (parts, table[:-1]), ("exact", parts, table)):
                self.exactly(shows_exact(book, clue, thing), False)

    def test_one_that_does_not_hold(self):
        sound = judge_sound(PAIR, APART)
        parts = (sound.lost, sound.rows)
        self.exactly(shows_exact(PAIR, APART, (parts, TABLE)), True)
        for thing in any_values():
            self.exactly(shows_exact(PAIR, APART, (thing, TABLE)), False)
            self.exactly(shows_exact(PAIR, APART, (parts, thing)), False)
        for other in (((), sound.rows), (sound.lost, sound.rows[:1]), (sound.lost, sound.rows[0])):
            self.exactly(shows_exact(PAIR, APART, (other, TABLE)), False)
        all_struck = Book(XO, Rule(XO, ["xo"], 0, "x"), Rule(XO, ["o"], 0, "o"))
        table = judge_complete(all_struck, APART).table
        judged = judge_sound(all_struck, APART)
        self.exactly([shows_complete(all_struck, APART, table), bool(judged)], [True, False])
        for lost in ((), (2,)):
            for rows in mutants((((0, 1, 2), (1, 2)), ((0, 1, 2), (0, 2)))):
                self.exactly(shows_exact(all_struck, APART, ((lost, rows), table)), False)


class OtherStrikers(Checks, unittest.TestCase):
    """A striker that is no book: nothing but its windows and its first strike is asked for."""

    def test_no_judgement_of_soundness(self):
        for book, kind in ((PAIR, "exact"), (HALF, "incomplete"), (PAIR + Rule(XO, ["o"], 0, "o"), "exact")):
            other = Veiled(book)
            judged = judge_exact(other, APART)
            self.exactly(judged.kind, kind)
            if kind == "exact":
                self.exactly([judged.sound, judged.paper()], [None, ("exact", None, judge_complete(book, APART).paper())])
                table = judged.complete.table
                self.exactly(shows_exact(other, APART, (None, table)), True)
                for sound in (((2,), ()), ((), ()), False, (), 0, ""):
                    self.exactly(shows_exact(other, APART, (sound, table)), False)
                self.exactly(shows_exact(other, APART, (None, table[1:])), False)
                self.exactly([shows_complete(other, APART, table), shows_exact(book, APART, (None, table))], [True, False])
            else:
                self.exactly(shows_incomplete(other, APART, judged.paper()[1:]), True)

    def test_comparisons(self):
        self.exactly([alike(PAIR, Veiled(PAIR)), judge_stronger(Veiled(PAIR), HALF).kind,
                      str(parting(Veiled(HALF), PAIR))], [True, "stronger", "xo x"])
        self.exactly([str(line) for line in stable_lines(Veiled(PAIR), Line.free(XO, 2))],
                     [str(line) for line in stable_lines(PAIR, Line.free(XO, 2))])


class Veiled(Striker):
    """Strikes as a book does."""

    def __init__(self, book):
        Striker.__init__(self, book.alphabet, book.width)
        self.book = book

    def first_strike(self, numbers, start):
        return self.book.first_strike(numbers, start)

    def walked(self):
        return self.book.walked()


if __name__ == "__main__":
    unittest.main()
