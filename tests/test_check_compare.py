import unittest

from linestrikes.best import Best
from linestrikes.books import Book
from linestrikes.check_compare import shows_parted, shows_stronger, shows_trimmed
from linestrikes.compare import judge_stronger, keepers, needless, trimmed
from linestrikes.errors import Unlike
from linestrikes.kinds import Every, Neighbours, Never
from linestrikes.lines import Line
from linestrikes.rules import Rule
from linestrikes.values import Values
from tests.slow import is_int, is_stable_by_hand
from tests.slow_strikers import SlowBest, SlowBook, stronger_told
from tests.support import ABC, ABCD, OX, XO, Checks, Dice, any_values, each_line, mutants, strikes_by_hand
from tests.test_compare import narrowed_book, some_books
from tests.test_sound import some_clue, sound_book

APART = Neighbours(XO, "xo", "ox", "oo")
BEHIND = Rule(XO, ["x", "xo"], 1, "x")
PAIR = Book(XO, BEHIND, -BEHIND)
HALF = Book(XO, BEHIND)
EMPTY = Book(XO)
BEST = Best(APART, 2)
ALL_STRUCK = Book(XO, Rule(XO, ["xo"], 0, "x"), Rule(XO, ["o"], 0, "o"))
FIRST = (True, (), False, False, False)
TABLE = judge_stronger(PAIR, HALF).table


def slow(striker):
    return SlowBook(striker) if isinstance(striker, Book) else SlowBest(striker.clue, striker.width)


def stronger_pairs(seed, many, longest_table=60):
    """Triples of two strikers and the table that shows that the first one is stronger."""
    dice = Dice(seed)
    found = []
    while len(found) < many:
        values = (XO, XO, ABC)[dice.below(3)]
        kind = dice.below(3)
        clue = some_clue(values, dice)
        if kind == 0:
            one = dice.book(values, dice.below(5), 1 + dice.below(3))
            other = Book.of(values, [rule for rule in narrowed_book(one, dice) if dice.below(3)])
        elif kind == 1:
            one, other = Best(clue, 1 + dice.below(2)), sound_book(clue, dice, 3, 1 + dice.below(2))
        else:
            one, other = Best(clue, 2), Best(clue, 1 + dice.below(2))
        judged = judge_stronger(one, other)
        if judged and len(judged.table) <= longest_table:
            found.append((one, other, judged.table))
    return found


class ShowsStronger(Checks, unittest.TestCase):

    def test_what_judge_stronger_tells_in_any_order(self):
        dice = Dice(211)
        for one, other, table in stronger_pairs(212, 60, 800):
            mixed = list(table)
            for k in range(len(mixed)):
                j = dice.below(len(mixed))
                mixed[k], mixed[j] = mixed[j], mixed[k]
            self.exactly([shows_stronger(one, other, table), shows_stronger(one, other, table[::-1]),
                          shows_stronger(one, other, tuple(mixed))], [True, True, True])
            self.exactly(shows_stronger(one=one, other=other, thing=table), True)
            self.exactly([shows_stronger(one, other, list(table)), shows_stronger(one, other, ("stronger", table))],
                         [False, False])

    def test_each_stand_left_out_or_twice(self):
        for one, other, table in stronger_pairs(213, 40):
            self.assertIn(FIRST, table)
            for k in range(len(table)):
                self.exactly(shows_stronger(one, other, table[:k] + table[k + 1:]), False)
                self.exactly(shows_stronger(one, other, table + table[k:k + 1]), False)
                self.exactly(shows_stronger(one, other, table[k:k + 1] + table), False)

    def test_each_change(self):
        many = 0
        for one, other, table in stronger_pairs(214, 40, 14):
            slow_one, slow_other = slow(one), slow(other)
            for thing in mutants(table):
                wanted = stronger_told(slow_one, slow_other, thing)
                self.exactly(shows_stronger(one, other, thing), wanted, thing)
                many += wanted
        self.assertTrue(many > 10, many)

    def test_further_stands(self):
        dice = Dice(215)
        answers = {}
        for one, other, table in stronger_pairs(216, 60):
            slow_one, slow_other = slow(one), slow(other)
            full = one.alphabet.full.number
            for _ in range(40):
                tail = tuple(1 + dice.below(full) for _ in range(dice.below(3)))
                more = (dice.below(2) == 0, tail, *[dice.below(2) == 0 for _ in range(3)])
                if more not in table:
                    thing = (more,) + table if dice.below(2) else table + (more,)
                    wanted = stronger_told(slow_one, slow_other, thing)
                    self.exactly(shows_stronger(one, other, thing), wanted, thing)
                    key = (wanted, more[3] and more[4])
                    answers[key] = answers.get(key, 0) + 1
        self.assertTrue(len(answers) == 4 and min(answers.values()) > 20, answers)

    def test_stands_that_need_not_come(self):
        table = judge_stronger(ALL_STRUCK, PAIR).table
        self.exactly([table, shows_stronger(ALL_STRUCK, PAIR, table)], [(FIRST,), True])
        for is_start, tail in ((True, ()), (True, (1,)), (False, (1,)), (False, (3,))):
            for may_end, other_may_end, is_struck in [(a, b, c) for a in (True, False) for b in (True, False)
                                                      for c in (True, False)]:
                more = (is_start, tail, may_end, other_may_end, is_struck)
                if more != FIRST:
                    self.exactly(shows_stronger(ALL_STRUCK, PAIR, table + (more,)), not may_end or other_may_end, more)
        for more in ((False, (), False, False, False), (False, (1, 1), False, False, False), (1, (), False, False, False),
                     (False, (0,), False, False, False), (False, (4,), False, False, False),
                     (True, (1, 1), False, False, False), (False, (True,), False, False, False),
                     (False, [1], False, False, False), (False, (1,), 0, False, False), (False, (1,), False, 0, False),
                     (False, (1,), False, False, 1), (False, (1,), False, False), (False, (1,), False, False, False, False),
                     [False, (1,), False, False, False], (False, 1, False, False, False), (None, (1,), False, False, False),
                     (False, ("1",), False, False, False), FIRST, None, (), "", 0):
            self.exactly(shows_stronger(ALL_STRUCK, PAIR, table + (more,)), False, more)

    def test_what_comes_behind_further_stands(self):
        # Behind a struck stand come struck stands alone; they do not fail as long as the line may not end for PAIR.
        self.exactly(shows_stronger(PAIR, HALF, TABLE), True)
        self.assertFalse(any(stand[4] for stand in TABLE))
        self.exactly(shows_stronger(PAIR, HALF, TABLE + ((False, (2,), True, True, True),)), False)
        every = Book(XO, Rule(XO, ["xo"], 0, "x", right=True), Rule(XO, ["o"], 0, "o", right=True))
        table = judge_stronger(every, PAIR).table
        self.assertTrue(any(stand[4] for stand in table) and not any(stand[2] for stand in table))
        self.exactly(shows_stronger(every, PAIR, table), True)
        for tail in ((1,), (2,), (3,)):
            self.exactly(shows_stronger(every, PAIR, table + ((True, tail, False, True, True),)), True)
            self.exactly(shows_stronger(every, PAIR, table + ((False, tail, True, True, True),)), True)
            self.exactly(shows_stronger(every, PAIR, table + ((False, tail, True, False, True),)), False)

    def test_a_greater_reach(self):
        wide = Book(XO, Rule(XO, ["x"] * 4, 0, "x"))
        for one, other in ((PAIR, wide), (BEST, wide), (Best(APART, 4), HALF), (PAIR, Best(Every(XO), 4)),
                           (Best(Never(XO), 4), Best(APART, 1))):
            table = judge_stronger(one, other).table
            self.exactly(shows_stronger(one, other, table), True)
            if len(table) > 1:
                self.exactly(max(len(stand[1]) for stand in table), 3)
            self.exactly(stronger_told(slow(one), slow(other), table), True)
            self.exactly(shows_stronger(one, other, table + ((True, (3,) * 3, False, False, False),)),
                         stronger_told(slow(one), slow(other), table + ((True, (3,) * 3, False, False, False),)))
            self.exactly(shows_stronger(one, other, table + ((True, (3,) * 4, False, False, False),)), False)
        self.exactly(shows_stronger(EMPTY, EMPTY, ((False, (), True, True, False), FIRST)), True)
        self.exactly(shows_stronger(EMPTY, EMPTY, ((False, (3,), True, True, False), (False, (), True, True, False), FIRST)),
                     False)

    def test_not_stronger(self):
        for table in (TABLE, judge_stronger(PAIR, PAIR).table, judge_stronger(HALF, HALF).table, (FIRST,)):
            for one, other in ((HALF, PAIR), (EMPTY, PAIR), (EMPTY, BEST), (HALF, BEST)):
                self.exactly(shows_stronger(one, other, table), False)
        self.exactly([shows_stronger(BEST, PAIR, judge_stronger(BEST, PAIR).table),
                      shows_stronger(PAIR, BEST, judge_stronger(PAIR, BEST).table)], [True, True])

    def test_other_values(self):
        for thing in any_values():
            self.exactly(shows_stronger(PAIR, HALF, thing), False)
            self.exactly(shows_stronger(BEST, HALF, TABLE + (thing,)), False)
            self.exactly(shows_stronger(ALL_STRUCK, EMPTY, thing), False)
            self.exactly(shows_stronger(EMPTY, EMPTY, (thing, FIRST)), False)

    def test_unlike_values_are_ahead(self):
        for other in (Book(OX), Book(ABC), Best(Every(OX), 1), Book(Values("xoa"))):
            for thing in (TABLE, None, (1,), ()):
                for look in (shows_stronger, shows_parted):
                    self.raises(Unlike("values"), look, PAIR, other, thing)
                    self.raises(Unlike("values"), look, other, BEST, thing)


class ShowsParted(Checks, unittest.TestCase):

    def test_any_such_line(self):
        answers = [0, 0]
        for one, other in some_books(217, 12):
            for length in (1, 2, 3) if len(one.alphabet) == 2 else (1, 2):
                for line in each_line(one.alphabet, length):
                    wanted = is_stable_by_hand(one, line) and not is_stable_by_hand(other, line)
                    self.exactly(shows_parted(one, other, tuple(cell.number for cell in line)), wanted)
                    answers[wanted] += 1
        self.assertTrue(min(answers) > 100, answers)

    def test_best_strikers(self):
        dice = Dice(218)
        answers = [0, 0]
        for _ in range(25):
            clue = some_clue(XO, dice)
            strikers = [Best(clue, 1 + dice.below(3)), dice.book(XO, 3, 2), Best(some_clue(XO, dice), 2)]
            for one in strikers:
                for other in strikers:
                    slow_one, slow_other = slow(one), slow(other)
                    for length in (1, 2, 3):
                        line = dice.line(XO, length)
                        wanted = slow_one.is_stable(line) and not slow_other.is_stable(line)
                        self.exactly(shows_parted(one, other, tuple(cell.number for cell in line)), wanted)
                        answers[wanted] += 1
        self.assertTrue(min(answers) > 50, answers)

    def test_what_judge_stronger_tells(self):
        judged = judge_stronger(HALF, PAIR)
        self.exactly(judged.paper(), ("parted", (3, 1)))
        self.exactly([shows_parted(HALF, PAIR, judged.paper()[1]), shows_parted(HALF, PAIR, judged.paper()),
                      shows_parted(one=HALF, other=PAIR, thing=(1, 3, 3, 1)), shows_parted(PAIR, HALF, (3, 1))],
                     [True, False, False, False])
        self.exactly([shows_parted(HALF, BEST, (2, 3, 1)), shows_parted(HALF, PAIR, (2, 2))], [True, False])

    def test_each_change(self):
        def as_told(thing):
            if type(thing) is not tuple or not thing or not all(is_int(k) and 1 <= k <= 3 for k in thing):
                return False
            line = Line(XO, [XO.numbered(k) for k in thing])
            return is_stable_by_hand(HALF, line) and not is_stable_by_hand(PAIR, line)

        for good in ((3, 1), (2, 3, 1), (3, 1, 2, 3)):
            for thing in mutants(good):
                self.exactly(shows_parted(HALF, PAIR, thing), as_told(thing), thing)

    def test_no_numbers_of_cells(self):
        for other in ((), (0, 1), (3, 4), (True, 1), (3, True), [3, 1], "31", 3, None, (3, None), (-1, 1), (3, "1"), ((3, 1),),
                      (3, 1, 0), (3, 10 ** 59), {3: 1}, (XO.full, XO.cell("x")), Line(XO, ["xo", "x"]), (3, 1, False)):
            self.exactly(shows_parted(HALF, PAIR, other), False, other)
        # Three values: 7 is the full cell.
        right = Book(ABC, Rule(ABC, ["abc"], 0, "a"))
        self.exactly([shows_parted(Book(ABC), right, (7,)), shows_parted(Book(ABC), right, (8,))], [True, False])
        self.exactly(shows_parted(Book(ABCD), Book(ABCD, Rule(ABCD, ["abcd"], 0, "a")), (15,)), True)

    def test_long_lines(self):
        for other in (Book(XO, Rule(XO, ["x"], 0, "x", right=True)), Best(Never(XO), 1)):
            self.exactly(shows_parted(EMPTY, other, (2,) * 4000 + (1,)), True)
            self.exactly(shows_parted(EMPTY, other, (2,) * 4001 + (1,)), False)
        self.exactly(shows_parted(EMPTY, PAIR, (3,) * 4001), False)

    def test_other_values(self):
        for thing in any_values():
            self.exactly(shows_parted(HALF, PAIR, thing), False)
            self.exactly(shows_parted(HALF, BEST, (3, 1, thing)), type(thing) is int and thing == 2)


def trimmed_as_told(book, rows, lines):
    """What shows_trimmed must answer."""
    if type(rows) is not tuple or not all(is_int(row) and 0 <= row < len(book) for row in rows):
        return False
    if list(rows) != sorted(set(rows)) or type(lines) is not tuple or len(lines) != len(rows):
        return False
    for row, numbers in zip(rows, lines):
        if type(numbers) is not tuple or not numbers or not all(
                is_int(k) and 1 <= k <= book.alphabet.full.number for k in numbers):
            return False
        line = [book.alphabet.numbered(k) for k in numbers]
        rest = Book.of(book.alphabet, [book[k] for k in rows if k != row])
        if not is_stable_by_hand(rest, line) or not strikes_by_hand(Book(book.alphabet, book[row]), [
                set(cell.letters) for cell in line]):
            return False
    return True


def rows_and_lines(book):
    """What keepers and trimmed tell of a book: the rules that stand, and the line of each."""
    rest = trimmed(book)
    rows = tuple(number for number, rule in enumerate(book) if rule in rest)
    return rows, tuple(tuple(cell.number for cell in line) for line in keepers(rest))


class ShowsTrimmed(Checks, unittest.TestCase):

    def some_books(self, seed, many):
        dice = Dice(seed)
        for values, widest in ((XO, 4), (ABC, 3), (ABCD, 2)):
            for _ in range(many):
                book = dice.book(values, dice.below(6), 1 + dice.below(widest))
                for _ in range(2):
                    book = narrowed_book(book, dice)
                yield book

    def test_what_trimmed_and_keepers_tell(self):
        left_out = 0
        for book in self.some_books(221, 30):
            rules = book.rules
            rows, lines = rows_and_lines(book)
            left_out += len(book) - len(rows)
            self.exactly(shows_trimmed(book, rows, lines), True)
            self.exactly(shows_trimmed(book=book, rows=rows, lines=lines), True)
            self.assertTrue(book.rules == rules)
            # Of fewer rules too: that the rest is alike is not looked at.
            self.exactly(shows_trimmed(book, rows[1:], lines[1:]), True)
            self.exactly(shows_trimmed(book, rows[:-1], lines[:-1]), True)
            self.exactly(shows_trimmed(book, (), ()), True)
            needed = tuple(number for number in range(len(book)) if number not in needless(book))
            told = tuple(tuple(cell.number for cell in line) for line in keepers(book) if line is not None)
            self.exactly(shows_trimmed(book, needed, told), True)
        self.assertTrue(left_out > 30, left_out)

    def test_any_other_lines(self):
        dice = Dice(222)
        answers = [0, 0]
        for book in self.some_books(223, 25):
            rows, lines = rows_and_lines(book)
            for at in range(len(rows)):
                for _ in range(6):
                    numbers = tuple(cell.number for cell in dice.line(book.alphabet, 1 + dice.below(5)))
                    thing = lines[:at] + (numbers,) + lines[at + 1:]
                    wanted = trimmed_as_told(book, rows, thing)
                    self.exactly(shows_trimmed(book, rows, thing), wanted)
                    answers[wanted] += 1
        self.assertTrue(min(answers) > 50, answers)
        # Longer lines than the least ones.
        self.exactly(shows_trimmed(PAIR, (0, 1), ((2, 1, 3, 2), (3, 1))), True)
        self.exactly(shows_trimmed(PAIR, (0, 1), ((1, 3), (3, 1))), True)
        self.exactly(shows_trimmed(PAIR, (0, 1), ((3, 1), (1, 3))), False)

    def test_each_change(self):
        answers = [0, 0]
        for book in self.some_books(224, 6):
            rows, lines = rows_and_lines(book)
            if len(rows) > 3:
                continue
            for thing in mutants(rows):
                wanted = trimmed_as_told(book, thing, lines)
                self.exactly(shows_trimmed(book, thing, lines), wanted, thing)
            for thing in mutants(lines):
                wanted = trimmed_as_told(book, rows, thing)
                self.exactly(shows_trimmed(book, rows, thing), wanted, thing)
                answers[wanted] += 1
        self.assertTrue(answers[0] > 500 and answers[1] > 5, answers)

    def test_wrong_rows(self):
        more = PAIR + Rule(XO, ["x", "x"], 1, "x")
        lines = ((1, 3), (3, 1))
        self.exactly(shows_trimmed(more, (0, 1), lines), True)
        for rows in ((1, 0), (0, 0), (0, 3), (0, -1), (0, True), (False, 1), [0, 1], (0,), (0, 1, 2), "01", None, 0, (), {0: 1},
                     (0, "1"), (0, 10 ** 59), ((0, 1),), (0, None), (0, 1, 1)):
            self.exactly(shows_trimmed(more, rows, lines), False, rows)
        for wrong in (((1, 3),), ((1, 3), (3, 1), (1, 1)), [(1, 3), (3, 1)], ((1, 3), [3, 1]), ((1, 3), ()), ((1, 3), None),
                      ((1, 3), (3, True)), ((1, 3), (3, 4)), ((1, 3), (3, 0)), ((1, 3), "31"), (), None, "", 0, lines[::-1],
                      ((1, 1), (1, 1)), ((1, 3), Line(XO, ["xo", "x"]))):
            self.exactly(shows_trimmed(more, (0, 1), wrong), False, wrong)
        # A rule that strikes nowhere else than the other ones do.
        for numbers in ((1, 1), (1, 3), (3, 1), (1, 1, 1)):
            self.exactly(shows_trimmed(more, (0, 1, 2), (*lines, numbers)), False)
        self.exactly(shows_trimmed(more, (2,), ((1, 1),)), True)

    def test_long_lines_and_empty_rows(self):
        book = Book(XO, Rule(XO, ["x"], 0, "x", right=True))
        self.exactly([shows_trimmed(book, (0,), ((2,) * 4000 + (1,),)), shows_trimmed(book, (0,), ((2,) * 4001 + (1,),))],
                     [True, False])
        for book in (EMPTY, PAIR):
            self.exactly([shows_trimmed(book, (), ()), shows_trimmed(book, [], ()), shows_trimmed(book, (), []),
                          shows_trimmed(book, (), ((1,),)), shows_trimmed(book, (0,), ())], [True, False, False, False, False])
        self.exactly(shows_trimmed(EMPTY, (0,), ((1,),)), False)

    def test_other_values(self):
        for thing in any_values():
            self.exactly(shows_trimmed(PAIR, thing, ((1, 3), (3, 1))), False)
            self.exactly(shows_trimmed(PAIR, (0, 1), thing), False)
            self.exactly(shows_trimmed(PAIR, (0, 1), ((1, 3), thing)), False)
            self.exactly(shows_trimmed(PAIR, thing, thing), thing == () and type(thing) is tuple)


if __name__ == "__main__":
    unittest.main()
