import unittest

from linestrikes.books import Book
from linestrikes.check_sound import shows_sound, shows_unsound
from linestrikes.errors import Unlike
from linestrikes.kinds import Every, Few, Listed, Modulo, Neighbours, Never, Runs
from linestrikes.lines import Line
from linestrikes.rules import Rule
from linestrikes.sound import Judgement, Shown, Sound, Unsound, is_sound_rule, judge_sound
from linestrikes.values import Values
from tests.slow import (has_sound_rows, lost_by_hand, rows_by_hand, sound_as_told, strikes_by_hand, unsound_as_told,
                        unsound_by_hand)
from tests.support import ABC, ABCD, OX, XO, Checks, Dice, any_values, each_text, mutants

APART = Neighbours(XO, "xo", "ox", "oo")
PAIR = Book(XO, Rule(XO, ["x", "xo"], 1, "x"), Rule(XO, ["xo", "x"], 0, "x"))
ROWS = (((0, 1, 2), (1, 2), (2,)), ((0, 1, 2), (1, 2), (2,)))
ONE = Book(XO, Rule(XO, ["xo"], 0, "x"))


def some_clue(values, dice):
    """A clue of some kind."""
    kind = dice.below(6)
    letters = values.letters
    if kind == 0:
        return Neighbours(values, *[a + b for a in letters for b in letters if dice.below(3)])
    if kind == 1:
        return Few(values, letters[0], dice.below(3))
    if kind == 2:
        return Modulo(values, letters[-1], 1 + dice.below(3))
    if kind == 3:
        return Runs(values, letters[0], *[1 + dice.below(2) for _ in range(dice.below(3))])
    return dice.machine(values, 4)[0]


def sound_book(clue, dice, many, longest=3):
    """A book of so many rules, perhaps fewer, that are sound for a clue."""
    rules = []
    for _ in range(60 * many):
        rule = dice.rule(clue.alphabet, longest)
        if len(rules) < many and has_sound_rows(rule, clue) and rule not in rules:
            rules.append(rule)
    return Book(clue.alphabet, *rules)


class JudgeSound(Checks, unittest.TestCase):

    def test_as_slow_answers(self):
        dice = Dice(101)
        kinds = {"sound": 0, "unsound": 0}
        for values, longest in ((XO, 8), (ABC, 5), (ABCD, 4)):
            for _ in range(80):
                clue = some_clue(values, dice)
                book = dice.book(values, dice.below(4)) if dice.below(2) else sound_book(clue, dice, 4)
                judged = judge_sound(book, clue)
                kinds[judged.kind] += 1
                self.exactly(bool(judged), all(has_sound_rows(rule, clue) for rule in book))
                spoiled = unsound_by_hand(book, clue, longest)
                if spoiled:
                    self.assertIs(type(judged), Unsound)
                    self.exactly([judged.spoiled, judged.place, judged.number], list(spoiled))
                    self.exactly(judged.paper(), ("unsound", *spoiled))
                elif judged:
                    self.assertIs(type(judged), Sound)
                    self.exactly(judged.lost, lost_by_hand(clue))
                    self.exactly(judged.rows, tuple(rows_by_hand(rule, clue) for rule in book))
                    self.exactly(judged.paper(), ("sound", judged.lost, judged.rows))
                else:
                    self.assertTrue(len(judged.spoiled) > longest)
        self.assertTrue(min(kinds.values()) > 30)

    def test_a_sound_book_strikes_nothing_of_a_right_word(self):
        dice = Dice(102)
        for _ in range(60):
            clue = some_clue(XO, dice)
            book = sound_book(clue, dice, 2, 4)
            for word in each_text(XO, 6, 1):
                if clue(word):
                    self.exactly(strikes_by_hand(book, [{letter} for letter in word]), [])

    def test_examples_and_books_without_rules(self):
        self.exactly(judge_sound(book=PAIR, clue=APART).paper(), ("sound", (2,), ROWS))
        self.exactly(judge_sound(ONE, APART).paper(), ("unsound", "x", 0, 0))
        self.exactly(judge_sound(Book(XO), APART).paper(), ("sound", (2,), ()))
        self.exactly(judge_sound(Book(XO), Every(XO)).paper(), ("sound", (), ()))
        self.exactly(judge_sound(Book(XO), Never(XO)).paper(), ("sound", (0,), ()))
        self.exactly(judge_sound(ONE, Never(XO)).paper(), ("sound", (0,), (((0,), (0,)),)))
        # The empty word alone is right: no line has it.
        self.exactly(judge_sound(ONE, Listed(XO, "")).paper(), ("sound", (1,), (((0, 1), (1,)),)))

    def test_the_least_word_place_and_number(self):
        # The word xo is as long as ox and ahead of it for these values, and behind it for the others.
        for values, word in ((XO, "xo"), (OX, "ox")):
            book = Book(values, Rule(values, ["o", "x"], 0, "o"), Rule(values, ["x", "o"], 0, "x"))
            self.exactly(judge_sound(book, Every(values)).spoiled, word)
        full = XO.full
        # Both strike on oo: the one with the greater number at the lesser place.
        book = Book(XO, Rule(XO, ["o"], 0, "o", right=True), Rule(XO, [full, full], 1, "o", left=True))
        self.exactly(judge_sound(book, Listed(XO, "oo")).paper(), ("unsound", "oo", 0, 1))
        book = Book(XO, Rule(XO, [full, "x"], 1, "x"), Rule(XO, ["o"], 0, "o"), Rule(XO, [full, full], 0, "o"))
        self.exactly(judge_sound(book, Listed(XO, "ooo", "oxox")).paper(), ("unsound", "ooo", 0, 1))
        # A shorter word that a rule with a greater number spoils.
        book = Book(XO, Rule(XO, ["x"] * 4, 0, "x"), Rule(XO, ["o"], 0, "o", left=True))
        self.exactly(judge_sound(book, Listed(XO, "xxxx", "oxx")).paper(), ("unsound", "oxx", 0, 1))

    def test_long_words(self):
        # The window stands behind thirty letters, and thirty more must follow.
        clue = Runs(XO, "x", 30, 30)
        book = Book(XO, Rule(XO, ["x", "o", "x"], 1, "o"))
        self.exactly(judge_sound(book, clue).paper(), ("unsound", "x" * 30 + "o" + "x" * 30, 29, 0))
        ends = Book(XO, Rule(XO, ["o"], 0, "o", left=True), Rule(XO, ["o"], 0, "o", right=True))
        self.exactly(judge_sound(ends, clue).paper(), ("unsound", "x" * 30 + "o" + "x" * 30 + "o", 61, 1))
        self.exactly(judge_sound(Book(XO, Rule(XO, ["x", "o", "x"], 1, "o")), Runs(XO, "x", 30)).kind, "sound")

    def test_unlike_values(self):
        for clue in (Every(OX), Every(ABC), Never(Values("xoa"))):
            self.raises(Unlike("values"), judge_sound, PAIR, clue)
            self.raises(Unlike("values"), is_sound_rule, PAIR[0], clue)
            for thing in (None, ((2,), ROWS), ("x", 0, 0)):
                self.raises(Unlike("values"), shows_sound, PAIR, clue, thing)
                self.raises(Unlike("values"), shows_unsound, PAIR, clue, thing)


class SoundRules(Checks, unittest.TestCase):

    def test_as_of_the_book_of_the_rule_alone(self):
        dice = Dice(103)
        kinds = {}
        for values in (XO, ABC):
            for _ in range(300):
                clue, rule = some_clue(values, dice), dice.rule(values)
                answer = is_sound_rule(rule, clue)
                self.exactly(answer, judge_sound(Book(values, rule), clue).kind == "sound")
                self.exactly(answer, has_sound_rows(rule, clue))
                key = rule.left, rule.right, answer
                kinds[key] = kinds.get(key, 0) + 1
        self.assertTrue(len(kinds) == 8 and min(kinds.values()) > 3)

    def test_ends(self):
        clue = Listed(XO, "xo", "xoo")
        for cells, left, right, wanted in ((["o"], True, False, True), (["o"], False, False, False),
                                           (["o"], False, True, False), (["o", "xo"], False, True, False),
                                           (["o", "xo"], True, True, True), (["xo", "o"], True, True, True)):
            self.exactly(is_sound_rule(Rule(XO, cells, 0, "o", left=left, right=right), clue), wanted)
        self.exactly(is_sound_rule(rule=Rule(XO, ["x"], 0, "x", right=True), clue=clue), True)
        self.exactly(is_sound_rule(Rule(XO, ["x"], 0, "x"), clue), False)


class Judgements(Checks, unittest.TestCase):

    def test_kinds_truths_and_classes(self):
        sound, other = judge_sound(PAIR, APART), judge_sound(ONE, APART)
        self.assertTrue(isinstance(sound, Judgement) and not isinstance(sound, Shown))
        self.assertTrue(isinstance(other, Judgement) and isinstance(other, Shown))
        self.assertTrue(Sound.__bases__ == (Judgement,) and Unsound.__bases__ == (Shown,))
        self.assertTrue(Shown.__bases__ == (Judgement,) and Judgement.__bases__ == (object,))
        self.exactly([sound.kind, other.kind, bool(sound), bool(other)], ["sound", "unsound", True, False])

    def test_equality(self):
        some = [judge_sound(PAIR, APART), judge_sound(ONE, APART), judge_sound(ONE, Every(XO)), judge_sound(Book(XO), APART),
                judge_sound(Book(XO), Every(XO)), judge_sound(Book(XO, Rule(XO, ["o"], 0, "o")), Every(XO))]
        wanted = [[k == j or {k, j} == {1, 2} for j in range(6)] for k in range(6)]
        self.exactly([[one == other for other in some] for one in some], wanted)
        self.exactly([[one != other for other in some] for one in some], [[not is_same for is_same in row] for row in wanted])
        self.exactly(judge_sound(PAIR, APART) == some[0], True)
        for thing in any_values() + [some[0].paper(), "sound"]:
            self.exactly([some[0] == thing, thing == some[0], some[1] == thing], [False, False, False])


class ShowsSound(Checks, unittest.TestCase):

    def test_each_change(self):
        dice = Dice(104)
        answers = [0, 0]
        for _ in range(50):
            clue = some_clue(XO, dice)
            book = sound_book(clue, dice, 2)
            judged = judge_sound(book, clue)
            self.exactly(shows_sound(book=book, clue=clue, thing=(judged.lost, judged.rows)), True)
            self.exactly(shows_sound(book, clue, judged.paper()), False)
            for thing in mutants((judged.lost, judged.rows)):
                wanted = sound_as_told(book, clue, thing)
                self.exactly(shows_sound(book, clue, thing), wanted, thing)
                answers[wanted] += 1
        self.assertTrue(min(answers) > 5)

    def test_books_that_are_not_sound(self):
        dice = Dice(105)
        many = 0
        for _ in range(150):
            clue, book = some_clue(XO, dice), dice.book(XO, 2, 3)
            if not judge_sound(book, clue):
                thing = (lost_by_hand(clue), tuple(rows_by_hand(rule, clue) for rule in book))
                self.exactly(shows_sound(book, clue, thing), False)
                many += 1
        self.assertTrue(many > 50)

    def test_sets(self):
        self.exactly(shows_sound(PAIR, APART, ((2,), ROWS)), True)
        larger = (((0, 1, 2), (1, 2), (2,)), ((0, 1, 2), (1, 2), (2,)))
        for lost in ((), (0,), (2, 2), (1, 2), (0, 1, 2), [2], 2, None, (True,), (3,), (-1, 2), "2"):
            self.exactly(shows_sound(PAIR, APART, (lost, larger)), False)
        row = ROWS[0]
        for other in (((0, 1), (1, 2), (2,)), ((0, 1, 2), (1,), (2,)), ((0, 1, 2), (1, 2), ()), ((0, 1, 2), (2, 1), (2,)),
                      ((0, 1, 2), (0, 1, 2), (2,)), ((0, 1, 2), (1, 2), (1, 2)), row[:2], row + ((2,),), list(row),
                      ((0, 1, 2), [1, 2], (2,)), ((False, 1, 2), (1, 2), (2,)), ((0, True, 2), (1, 2), (2,)),
                      ((0, 1, 2, 3), (1, 2), (2,)), None, 0, "012"):
            self.exactly(shows_sound(PAIR, APART, ((2,), (row, other))), False, other)
        for rows in ((row,), (row, row, row), [row, row], (), None, row):
            self.exactly(shows_sound(PAIR, APART, ((2,), rows)), False, rows)
        self.exactly(shows_sound(PAIR, APART, [(2,), ROWS]), False)
        self.exactly(shows_sound(Book(XO), APART, ((), ())), True)
        self.exactly(shows_sound(Book(XO), APART, ((2,), ())), True)
        self.exactly(shows_sound(Book(XO), APART, ((1,), ())), False)

    def test_larger_sets_at_an_end(self):
        rule = Rule(XO, ["x"], 0, "x", left=True, right=True)
        clue = Listed(XO, "o")
        judged = judge_sound(Book(XO, rule), clue)
        lost, ((first, last),) = judged.lost, judged.rows
        told = clue.told.index(True)
        everything = tuple(range(len(clue)))
        self.exactly([first, shows_sound(Book(XO, rule), clue, (lost, ((first, last),)))], [(0,), True])
        self.exactly(shows_sound(Book(XO, rule), clue, ((), ((first, last),))), True)
        untold = tuple(state for state in everything if state != told)
        self.exactly(shows_sound(Book(XO, rule), clue, (lost, ((first, untold),))), True)
        self.exactly(shows_sound(Book(XO, rule), clue, (lost, ((untold, untold),))), True)
        self.exactly(shows_sound(Book(XO, rule), clue, (lost, ((first, everything),))), False)
        self.exactly(shows_sound(Book(XO, rule), clue, (lost, (((), last),))), False)

    def test_other_values(self):
        for thing in any_values():
            self.exactly(shows_sound(PAIR, APART, thing), False)
            self.exactly(shows_sound(PAIR, APART, ((2,), thing)), False)
            self.exactly(shows_sound(PAIR, APART, (thing, ROWS)), False)
            self.exactly(shows_unsound(ONE, APART, thing), False)
            self.exactly(shows_unsound(ONE, APART, (thing, 0, 0)), thing == "x")
            self.exactly(shows_unsound(ONE, APART, ("x", thing, 0)), type(thing) is int and thing == 0)
            self.exactly(shows_unsound(ONE, APART, ("x", 0, thing)), type(thing) is int and thing == 0)


class ShowsUnsound(Checks, unittest.TestCase):

    def test_any_right_word(self):
        dice = Dice(106)
        answers = [0, 0]
        for _ in range(40):
            clue, book = some_clue(XO, dice), dice.book(XO, 3, 3)
            judged = judge_sound(book, clue)
            if not judged:
                self.exactly(shows_unsound(book=book, clue=clue, thing=judged.paper()[1:]), True)
                for thing in mutants(judged.paper()[1:]):
                    self.exactly(shows_unsound(book, clue, thing), unsound_as_told(book, clue, thing), thing)
            for word in each_text(XO, 4):
                for place in range(-1, 5):
                    for number in range(-1, 4):
                        wanted = unsound_as_told(book, clue, (word, place, number))
                        self.exactly(shows_unsound(book, clue, (word, place, number)), wanted)
                        answers[wanted] += 1
        self.assertTrue(min(answers) > 100)

    def test_words_places_and_numbers(self):
        self.exactly([shows_unsound(ONE, APART, ("oxoxo", place, 0)) for place in range(6)],
                     [False, True, False, True, False, False])
        for thing in (["x", 0, 0], ("xx", 0, 0), ("", 0, 0), ("xa", 0, 0), ("x", False, 0), ("x", 0, False), ("x", -1, 0),
                      ("x", 1, 0), ("x", 0, 1), ("x", 0, -1), ("x", 0), ("x", 0, 0, 0), (("x",), 0, 0), ("x", None, 0),
                      ("x", "0", 0), ("unsound", "x", 0, 0), ("x", 0, 10 ** 59)):
            self.exactly(shows_unsound(ONE, APART, thing), False, thing)

    def test_long_words(self):
        word = "xo" * 2000 + "x"
        self.exactly([len(word), shows_unsound(ONE, APART, (word, 4000, 0))], [4001, True])
        self.exactly(shows_unsound(ONE, APART, (word, 3999, 0)), False)
        self.exactly(shows_unsound(ONE, APART, (word + "o", 4000, 0)), False)
        self.exactly(shows_unsound(ONE, APART, ("o" + word, 1, 0)), False)
        end = Book(XO, Rule(XO, ["o", "x"], 1, "x", right=True))
        self.exactly(shows_unsound(end, APART, (word, 3999, 0)), True)


if __name__ == "__main__":
    unittest.main()
