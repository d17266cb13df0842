import unittest

from linestrikes.books import Book
from linestrikes.errors import BadBook, BadNames, Clash, NoRule, Struck, Unlike
from linestrikes.lines import Line, Narrower
from linestrikes.rules import Rule
from linestrikes.strikers import Striker
from linestrikes.values import Values
from tests.support import (ABC, ABCD, OX, XO, Checks, Dice, any_values, each_line, rounds_by_hand, strikes_by_hand,
                           struck_by_hand)
from tests.test_values import BAD_NAMES

ONE = Rule(XO, ["x", "xo"], 1, "x")
TWO = -ONE
THREE = Rule(XO, ["xo"], 0, "x", left=True)


def rules_of(values, many):
    """So many unlike rules."""
    found = []
    for at in range(4):
        for line in each_line(values, 4):
            found.append(Rule(values, list(line), at, line[at].letters[0]))
            if len(found) == many:
                return found
    return found


class Making(Checks, unittest.TestCase):

    def test_what_a_book_tells(self):
        book = Book(XO, ONE, TWO, THREE)
        self.assertTrue(isinstance(book, Striker) and isinstance(book, Narrower))
        self.assertIs(book.alphabet, XO)
        self.assertIsInstance(book.rules, tuple)
        self.exactly([len(book), book.width, len(book.rules)], [3, 2, 3])
        self.assertTrue(all(a is b for a, b in zip(book.rules, (ONE, TWO, THREE))))
        self.assertTrue(book[0] == ONE and book[2] == THREE)
        self.assertTrue(list(book) == [ONE, TWO, THREE])
        empty = Book(values=XO)
        self.exactly([len(empty), empty.width, empty.rules, list(empty)], [0, 0, (), []])
        self.exactly([Book(XO, THREE).width, Book(XO, *rules_of(XO, 2)).width, Book.MOST], [1, 4, 40])

    def test_an_index(self):
        book = Book(XO, ONE, TWO)
        for thing in any_values() + [2, -1, True, False, "0", ONE]:
            if type(thing) is int and 0 <= thing <= 1:
                continue
            error = self.raises(NoRule(thing), lambda: book[thing])
            self.assertIs(error.rule, thing)

    def test_membership_of_any_value(self):
        book = Book(XO, ONE, TWO)
        self.exactly([ONE in book, Rule(Values("xo"), ("x", "ox"), 1, "x") in book, THREE in book], [True, True, False])
        self.exactly(Rule(OX, ["x", "xo"], 1, "x") in book, False)
        for thing in any_values(ABC) + [str(ONE), 0, book]:
            self.exactly(thing in book, False)

    def test_equality(self):
        books = [Book(XO), Book(OX), Book(XO, ONE), Book(XO, ONE, TWO), Book(XO, TWO, ONE), Book(XO, TWO),
                 Book(XO, THREE), Book(OX, Rule(OX, ["x", "xo"], 1, "x"))]
        for k, one in enumerate(books):
            self.exactly([one == other for other in books], [k == j for j in range(len(books))])
            self.exactly(one == Book(Values(one.alphabet.letters), *one.rules), True)
            for thing in any_values(ABC) + [one.rules, list(one.rules)]:
                self.exactly([one == thing, thing == one], [False, False])

    def test_books_of_lists(self):
        rules = [ONE, TWO]
        book = Book.of(XO, rules)
        self.assertTrue(book == Book(XO, ONE, TWO) and Book.of(values=XO, rules=tuple(rules)) == book)
        rules.append(THREE)
        rules[0] = THREE
        self.assertTrue(book == Book(XO, ONE, TWO))
        self.exactly([len(Book.of(XO, [])), len(Book.of(XO, ()))], [0, 0])
        self.raises(BadBook(1), Book.of, XO, [ONE, ONE])
        self.raises(BadBook(None), Book.of, None, [ONE])
        self.raises(BadBook(None), Book.of, XO, rules_of(XO, 41))
        for thing in any_values():
            if not isinstance(thing, (list, tuple)):
                self.raises(BadBook(None), Book.of, XO, thing)

    def test_bad_books(self):
        for thing in any_values() + ["xo", XO.full]:
            if not isinstance(thing, Values):
                self.raises(BadBook(None), Book, thing)
                self.raises(BadBook(None), Book, thing, None, ONE, ONE)
        for thing in any_values(ABC) + [str(ONE), [ONE], (ONE,), Rule(OX, ["x"], 0, "x"), Book(XO, ONE),
                                        Rule(Values("xoa"), ["x"], 0, "x"), ONE.pattern]:
            self.raises(BadBook(0), Book, XO, thing)
            self.raises(BadBook(2), Book, XO, ONE, TWO, thing, thing)
        self.raises(BadBook(1), Book, XO, ONE, Rule(Values("xo"), ("x", "ox"), 1, "x"), None)
        self.raises(BadBook(3), Book, XO, ONE, TWO, THREE, ONE, ONE)
        self.raises(BadBook(0), Book, OX, ONE)

    def test_forty_rules_and_one_more(self):
        rules = rules_of(XO, 41)
        book = Book(XO, *rules[:40])
        self.exactly(len(book), 40)
        self.raises(BadBook(None), Book, XO, *rules)
        self.raises(BadBook(None), Book, XO, *[None] * 41)
        self.raises(BadBook(None), lambda: book + rules[40])
        self.raises(BadBook(None), lambda: book + None)
        self.raises(BadBook(None), lambda: book | Book(XO, rules[40]))
        self.assertTrue(book | book == book)
        self.assertTrue(Book(XO, *rules[:20]) | Book(XO, *rules[10:40]) == book)


class Signs(Checks, unittest.TestCase):

    def test_plus(self):
        book = Book(XO, ONE)
        self.assertTrue(book + TWO == Book(XO, ONE, TWO))
        self.exactly(len(book), 1)
        for thing in any_values() + [Rule(OX, ["x"], 0, "x"), str(TWO), [TWO], ONE, Book(XO, TWO)]:
            if isinstance(thing, Rule) and thing.alphabet == XO and thing != ONE:
                continue
            self.raises(BadBook(1), lambda: book + thing)
        self.raises(BadBook(0), lambda: Book(XO) + None)

    def test_minus(self):
        book = Book(XO, ONE, TWO, THREE)
        self.assertTrue(book - TWO == Book(XO, ONE, THREE))
        self.assertTrue(book - Rule(Values("xo"), ["x", "xo"], 1, "x") == Book(XO, TWO, THREE))
        self.assertTrue(book - ONE - TWO - THREE == Book(XO))
        self.exactly(len(book), 3)
        for thing in any_values() + [0, 1, str(ONE), [ONE], Rule(OX, ["x", "xo"], 1, "x"), book, -THREE]:
            error = self.raises(NoRule(thing), lambda: book - thing)
            self.assertIs(error.rule, thing)

    def test_or(self):
        self.assertTrue(Book(XO, ONE, TWO) | Book(XO, THREE, ONE, -THREE) == Book(XO, ONE, TWO, THREE, -THREE))
        self.assertTrue(Book(XO) | Book(XO, TWO, ONE) == Book(XO, TWO, ONE))
        self.raises(Unlike("values"), lambda: Book(XO, ONE) | Book(OX))
        self.raises(Unlike("values"), lambda: Book(XO, *rules_of(XO, 40)) | Book(OX, *rules_of(OX, 40)))

    def test_in_place_signs_bind_the_name_alone(self):
        book = first = Book(XO, ONE)
        book += TWO
        second = book
        book |= Book(XO, THREE)
        third = book
        book -= ONE
        for got, wanted in ((first, [ONE]), (second, [ONE, TWO]), (third, [ONE, TWO, THREE]), (book, [TWO, THREE])):
            self.assertTrue(list(got) == wanted)
        with self.assertRaises(BadBook):
            book += TWO
        with self.assertRaises(NoRule):
            book -= ONE
        with self.assertRaises(Unlike):
            book |= Book(OX)
        self.assertTrue(list(book) == [TWO, THREE])

    def test_mirrored_and_renamed(self):
        book = Book(XO, ONE, THREE)
        self.assertTrue(-book == Book(XO, TWO, -THREE) and -(-book) == book)
        other = book.renamed({"x": "b", "o": "a"})
        self.assertTrue(other == Book(Values("ba"), *[rule.renamed({"x": "b", "o": "a"}) for rule in book]))
        self.assertTrue(Book(XO).renamed(names={"x": "o", "o": "x"}) == Book(OX))
        for thing in any_values() + BAD_NAMES:
            self.raises(BadNames(), book.renamed, thing)
            self.raises(BadNames(), Book(XO).renamed, thing)


class Striking(Checks, unittest.TestCase):

    def test_strikes_rounds_and_what_is_left(self):
        dice = Dice(41)
        clashes = 0
        for values in (XO, ABC, ABCD):
            for _ in range(150):
                book = dice.book(values, dice.below(6), 1 + dice.below(4))
                line = dice.line(values, 1 + dice.below(7)) if dice.below(3) else Line.free(values, 1 + dice.below(7))
                clashes += self.look_at(book, line)
                self.look_at_rounds(book, line)
        self.assertTrue(50 < clashes < 400)

    def test_all_lines_of_three_cells(self):
        dice = Dice(42)
        for _ in range(30):
            book = dice.book(XO, 3, 3)
            for line in each_line(XO, 3):
                self.look_at(book, line)
                self.look_at_rounds(book, line)

    def look_at(self, book, line):
        kept = str(line)
        done, left, clash = struck_by_hand(book, line)
        self.exactly(book.is_stable(line), not done and clash is None)
        target = line.copy()
        name = target
        if clash is None:
            self.exactly(list(book.strikes(line)), done)
            self.exactly([cell.letters for cell in book(line)], left)
            target &= book
            self.exactly([cell.letters for cell in target], left)
            second = line.copy()
            self.exactly(book.narrowed(second), None)
            self.assertTrue(second == target and book.is_stable(target))
        else:
            self.look_at_clash(book, line, done, clash)
        self.assertIs(target, name)
        self.exactly(str(line), kept)
        return clash is not None

    def look_at_clash(self, book, line, done, clash):
        at, place, number = clash
        got = []

        def ask():
            for strike in book.strikes(line):
                got.append(strike)

        self.raises_from(Clash(at), Struck(place, number), ask)
        self.exactly(got, done)
        self.raises_from(Clash(at), Struck(place, number), book, line)
        target = line.copy()
        name = target
        self.raises_from(Clash(at), Struck(place, number), book.narrowed, target)
        with self.assertRaises(Clash) as caught:
            target &= book
        self.exactly([caught.exception.place, vars(caught.exception.__cause__)], [at, {"place": place, "number": number}])
        self.assertTrue(target is name and target == line)

    def look_at_rounds(self, book, line):
        lines, clash = rounds_by_hand(book, line)
        got = []

        def ask():
            for one in book.rounds(line):
                got.append(one)

        if clash is None:
            ask()
        else:
            self.raises_from(Clash(clash[0]), Struck(*clash[1:]), ask)
        self.exactly([[cell.letters for cell in one] for one in got], lines)
        self.assertTrue(all(isinstance(one, Line) and one is not line for one in got))

    def test_what_is_left_is_the_greatest_stable_line_within(self):
        dice = Dice(43)
        for _ in range(40):
            book = dice.book(XO, 3, 3)
            lines = list(each_line(XO, 3))
            stable = [line for line in lines if book.is_stable(line)]
            for line in lines:
                within = [one for one in stable if one.within(line)]
                if within:
                    join = within[0]
                    for one in within:
                        join = join | one
                    self.assertTrue(book(line) == join)
                else:
                    self.assertRaises(Clash, book, line)

    def test_the_order_of_strikes(self):
        late = Rule(ABC, ["abc"], 0, "c")
        early = Rule(ABC, ["abc"], 0, "a")
        book = Book(ABC, late, early)
        self.exactly(list(book.strikes(Line.free(ABC, 2))), [(0, 0), (0, 1), (1, 0), (1, 1)])
        self.exactly(list(Book(ABC, early, late).strikes(Line.free(ABC, 1))), [(0, 0), (0, 1)])
        self.exactly(strikes_by_hand(book, [{"a", "b"}, {"b", "c"}]), [(0, 1), (1, 0)])
        back = Book(XO, Rule(XO, ["xo", "o"], 0, "o"), Rule(XO, ["xo"], 0, "x", right=True))
        self.exactly(list(back.strikes(Line(XO, ["x", "xo", "xo", "xo"]))), [(3, 1), (2, 0)])
        self.raises_from(Clash(1), Struck(1, 0), back, Line(XO, ["x", "o", "o"]))

    def test_the_cause_of_a_round(self):
        book = Book(XO, Rule(XO, ["x", "xo", "x"], 1, "o"), Rule(XO, ["xo", "x"], 0, "x"), Rule(XO, ["xo"], 0, "o"))
        line = Line(XO, ["x", "xo", "x"])
        self.raises_from(Clash(1), Struck(0, 0), lambda: list(book.rounds(line)))
        twice = Book(XO, Rule(XO, ["o", "o"], 1, "o"), Rule(XO, ["o"], 0, "o", right=True))
        self.raises_from(Clash(1), Struck(0, 0), lambda: list(twice.rounds(Line(XO, ["o", "o", "o"]))))
        self.raises_from(Clash(0), Struck(0, 1), lambda: list(twice.rounds(Line(XO, ["o"]))))

    def test_no_rules(self):
        book, line = Book(XO), Line.free(XO, 3)
        self.exactly([book.is_stable(line), list(book.strikes(line)), list(book.rounds(line)), str(book(line))],
                     [True, [], [], "xo xo xo"])
        self.assertTrue(book(line) is not line)

    def test_thirty_cells(self):
        rules = [Rule(ABCD, ["abcd"], 0, "d"), Rule(ABCD, ["abc"] * 4, 3, "c"), Rule(ABCD, ["ab"] * 4, 0, "b")]
        book = Book(ABCD, *rules)
        line = Line.free(ABCD, 30)
        done, left, clash = struck_by_hand(book, line)
        self.exactly([list(book.strikes(line)), [cell.letters for cell in book(line)], clash], [done, left, None])

    def test_a_line_that_is_changed_behind_the_first_item(self):
        book = Book(XO, Rule(XO, ["xo"], 0, "x"), Rule(XO, ["o", "xo"], 1, "x"))
        line = Line.free(XO, 3)
        strikes, rounds = book.strikes(line), book.rounds(line)
        self.assertTrue(iter(strikes) is strikes and iter(rounds) is rounds)
        line[2] = "o"
        got = [next(strikes), str(next(rounds))]
        line[1] = "x"
        line[0] = "o"
        self.exactly([got, list(strikes), list(rounds)], [[(0, 0), "o o o"], [(0, 1)], []])
        self.exactly(str(line), "o x o")

    def test_returned_lines_are_new(self):
        book = Book(XO, Rule(XO, ["xo"], 0, "x", left=True))
        line = Line.free(XO, 2)
        for new in book.rounds(line):
            new[1] = "x"
        left = book(line=line)
        left[1] = "x"
        self.exactly([str(line), str(left), str(book(line))], ["xo xo", "o x", "o xo"])

    def test_names_see_the_line_that_is_struck(self):
        book, line = Book(XO, THREE), Line.free(XO, 2)
        same = line
        line &= book
        self.exactly([str(same), same is line], ["o xo", True])
        book.narrowed(line=same)
        self.exactly(str(line), "o xo")

    def test_unlike_values(self):
        book = Book(XO, ONE)
        for line in (Line.free(OX, 2), Line.free(ABC, 1), Line.free(Values("xoa"), 2)):
            kept = line.copy()
            for ask in (book.is_stable, book, book.narrowed, lambda line: next(book.strikes(line)),
                        lambda line: next(book.rounds(line)), Book(XO).is_stable, lambda line: list(Book(XO).rounds(line))):
                self.raises(Unlike("values"), ask, line)
            with self.assertRaises(Unlike):
                line &= book
            self.assertTrue(line == kept)

    def test_long_lines_are_asked_whether_they_are_stable(self):
        book = Book(XO, *rules_of(XO, 39), Rule(XO, ["xo"], 0, "o", right=True))
        self.exactly(Book(XO, Rule(XO, ["x"], 0, "x")).is_stable(Line.sure(XO, "o" * 4001)), True)
        self.exactly(book.is_stable(Line.free(XO, 4001)), False)


if __name__ == "__main__":
    unittest.main()
