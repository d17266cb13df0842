"""The whole program: what is read, struck, judged, shown, searched and said is alike whichever way it is asked for."""

import unittest

from linestrikes.best import Best
from linestrikes.books import Book
from linestrikes.check_compare import shows_parted, shows_stronger, shows_trimmed
from linestrikes.check_complete import shows_complete, shows_exact, shows_incomplete
from linestrikes.check_givens import shows_givens
from linestrikes.check_sound import shows_sound, shows_unsound
from linestrikes.check_supports import shows_left_by
from linestrikes.check_trails import shows_clash, shows_left
from linestrikes.compare import judge_stronger, keepers, needless, trimmed
from linestrikes.complete import judge_complete, judge_exact
from linestrikes.desk import Desk
from linestrikes.givens import givens
from linestrikes.guess import Search, probed
from linestrikes.lines import Line
from linestrikes.reader import read, read_book, read_clue, read_line, read_trail
from linestrikes.sound import judge_sound
from linestrikes.stable import join, stable_lines
from linestrikes.supports import count_words, judged_left, left_by, right_words
from linestrikes.texts import write_book, write_clue, write_line, write_trail
from linestrikes.trails import trail
from linestrikes.widths import least_width
from tests.slow import has_sound_rows
from tests.slow_strikers import all_rules
from tests.support import XO, Checks, Dice

CLUES = ["clue xo\nneighbours xo ox oo", "clue xo\nruns x 2", "clue xo\nfew x 1\nnot ends o o", "clue xo\nmodulo x 2 1\nneighbours xo ox",
         "clue xo\nlisted xo oxx -", "clue xo\nnever", "clue xo\nnot every\nevery", "clue xo\nruns x 1 1", "clue xo\nevery",
         "clue xo\nmachine\nyes 1 0\nno 2 0\nyes 2 1",
         "clue abc\nneighbours ab bc ca", "clue abc\nnot listed a b c\nfew b 1", "clue abc\nruns a 1\nends a c"]


def some_clues():
    return [read_clue(text) for text in CLUES]


def sound_books(clue, dice):
    """Books of sound rules of the clue: some of all those of at most two cells, and one rule that is not sound."""
    rules = list(all_rules(clue.alphabet, 2))
    sound = [rule for rule in rules if has_sound_rows(rule, clue)]
    spoiling = [rule for rule in rules if not has_sound_rows(rule, clue)]
    for many in (0, 3, 10):
        some = [sound[dice.below(len(sound))] for _ in range(many if sound else 0)]
        yield Book.of(clue.alphabet, [rule for k, rule in enumerate(some) if rule not in some[:k]])
    if spoiling:
        yield Book(clue.alphabet, spoiling[dice.below(len(spoiling))])


class Whole(Checks, unittest.TestCase):

    def test_texts_of_all_things(self):
        for clue in some_clues():
            self.assertTrue(read_clue(write_clue(clue)) == clue and read(write_clue(clue)) == clue)
            for book in sound_books(clue, Dice(321)):
                self.assertTrue(read_book(write_book(book)) == book)
                self.exactly(write_book(read(write_book(book))), write_book(book))

    def test_lines_are_struck_alike(self):
        dice = Dice(322)
        clashes = 0
        for clue in some_clues():
            for book in sound_books(clue, dice):
                for _ in range(6):
                    line = dice.line(clue.alphabet, 1 + dice.below(6))
                    self.assertTrue(read_line(write_line(line)) == line)
                    found = trail(book, line)
                    text = write_trail(clue.alphabet, found.done, found.left)
                    strikes, left = read_trail(text)
                    clashes += left is None
                    lines = list(stable_lines(book, line)) if line.many < 300 else None
                    if left is None:
                        self.exactly(shows_clash(book, line, strikes), True)
                        self.exactly([probed(book, line), list(Search(book, line).words())], [None, []])
                        self.assertIn(lines, ([], None))
                    else:
                        self.exactly(shows_left(book, line, strikes, left), True)
                        same = line.copy()
                        same &= book
                        self.assertTrue(same == left == book(line))
                        if lines is not None:
                            self.assertTrue(join(lines) == left)
        self.assertTrue(clashes > 20, clashes)

    def test_what_right_words_leave(self):
        dice = Dice(323)
        for clue in some_clues():
            for _ in range(12):
                line = dice.line(clue.alphabet, 1 + dice.below(6))
                found = judged_left(clue, line)
                self.exactly(shows_left_by(clue, line, found.line, found.shown, found.barred), True)
                words = list(right_words(clue, line))
                self.exactly([count_words(clue, line), bool(found)], [len(words), bool(words)])
                self.assertTrue(left_by(clue, line) == (join([Line.sure(clue.alphabet, word) for word in words]) if words else None))

    def test_judgements_are_shown(self):
        dice = Dice(324)
        kinds = {}
        for clue in some_clues():
            books = list(sound_books(clue, dice))
            strikers = books + [Best(clue, 1), Best(clue, 2)]
            for striker in strikers:
                judged = judge_complete(striker, clue)
                look = shows_complete if judged else shows_incomplete
                paper = judged.paper()[1:]
                self.exactly(look(striker, clue, paper[0] if judged else paper), True)
                exact = judge_exact(striker, clue)
                kinds[exact.kind] = kinds.get(exact.kind, 0) + 1
                if exact:
                    sound = None if exact.sound is None else exact.sound.paper()[1:]
                    self.exactly(shows_exact(striker, clue, (sound, exact.complete.table)), True)
            for book in books:
                judged = judge_sound(book, clue)
                look = shows_sound if judged else shows_unsound
                self.exactly(look(book, clue, judged.paper()[1:]), True)
                rest = trimmed(book)
                rows = tuple(k for k, rule in enumerate(book) if rule in rest)
                lines = tuple(tuple(cell.number for cell in line) for line in keepers(rest))
                self.exactly(shows_trimmed(book, rows, lines), True)
                self.exactly(needless(rest), ())
            for one in strikers:
                for other in strikers:
                    judged = judge_stronger(one, other)
                    look = shows_stronger if judged else shows_parted
                    self.exactly(look(one, other, judged.paper()[1]), True)
        self.assertTrue(len(kinds) == 3, kinds)

    def test_a_sound_striker_that_is_stronger_than_an_exact_one_is_exact(self):
        dice = Dice(325)
        many = 0
        for clue in some_clues():
            width = least_width(clue, 3 if len(clue.alphabet) == 2 else 2)
            if width is None:
                continue
            exact = Best(clue, width)
            for book in sound_books(clue, dice):
                if judge_sound(book, clue):
                    self.exactly(bool(judge_stronger(book, exact)), bool(judge_exact(book, clue)))
                    many += 1
        self.assertTrue(many > 15, many)

    def test_searches_and_givens_of_exact_strikers(self):
        dice = Dice(326)
        many = 0
        for clue in some_clues():
            width = least_width(clue, 3 if len(clue.alphabet) == 2 else 2)
            if width is None:
                continue
            best = Best(clue, width)
            for _ in range(8):
                line = dice.line(clue.alphabet, 1 + dice.below(5))
                search = Search(best, line)
                words = list(right_words(clue, line))
                self.exactly([list(search.words()), search.taken_back], [words, 0])
                self.assertTrue(probed(best, line) == left_by(clue, line))
                if words:
                    many += 1
                    found = givens(best, words[-1])
                    self.exactly(shows_givens(best, words[-1], found.chosen, found.lines), True)
        self.assertTrue(many > 20, many)

    def test_a_desk_answers_as_the_functions_do(self):
        dice = Dice(327)
        for text in CLUES:
            clue = read_clue(text)
            rows = text.split("\n")[1:]
            if rows[0] == "machine":
                continue
            for book in sound_books(clue, dice):
                desk = Desk()
                told = desk.run("values " + clue.alphabet.letters, "clue " + rows[0], *["and " + row for row in rows[1:]],
                                *write_book(book).split("\n")[1:])
                self.exactly(told, ["ok"] * len(told))
                self.as_functions(desk, clue, book, dice)

    def as_functions(self, desk, clue, book, dice):
        line = dice.line(clue.alphabet, 1 + dice.below(5))
        self.exactly(desk.run("line " + str(line), "words"), ["ok", str(count_words(clue, line))])
        left = left_by(clue, line)
        self.exactly(desk("should"), "none" if left is None else f"left {left}")
        self.exactly(desk("search"), " ".join(Search(book, line).words()) or "none")
        found = trail(book, line)
        if found.left is None:
            place, number = found.done[-1]
            self.exactly(desk("strike"), f"clash at {found.clash} by {number} at {place}")
            self.assertTrue(desk.line_copy() == line)
        else:
            self.exactly(desk("strike"), f"left {found.left}")
            self.assertTrue(desk.line_copy() == found.left)
        judged = judge_sound(book, clue)
        self.exactly(desk("sound"),
                     "sound" if judged else f"spoils {judged.spoiled} at {judged.place} by {judged.number}")
        for said, striker in (("complete", book), ("best 1", Best(clue, 1)), ("best 2", Best(clue, 2))):
            judged = judge_complete(striker, clue)
            self.exactly(desk(said), f"complete {len(judged.table)}" if judged
                         else f"leaves {judged.value} at {judged.place} of {judged.line}")
        if clue.alphabet == XO:
            width = least_width(clue)
            self.exactly(desk("width"), "none" if width is None else str(width))
        self.exactly([desk("trim"), desk("rules")], [f"ok {len(trimmed(book))}", " / ".join(map(str, trimmed(book))) or "none"])


if __name__ == "__main__":
    unittest.main()
