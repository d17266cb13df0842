import itertools
import unittest

from linestrikes.best import Best
from linestrikes.books import Book
from linestrikes.errors import BadWord, NotStable, TooMany
from linestrikes.givens import Givens, asked, givens
from linestrikes.kinds import Every, Listed, Modulo, Neighbours
from linestrikes.lines import Line
from linestrikes.rules import Rule
from tests.slow_strikers import SlowBest
from tests.support import ABC, ABCD, XO, Checks, Dice, any_values, struck_by_hand
from tests.test_sound import some_clue, sound_book

APART = Neighbours(XO, "xo", "ox", "oo")
BEHIND = Rule(XO, ["x", "xo"], 1, "x")
PAIR = Book(XO, BEHIND, -BEHIND)
EMPTY = Book(XO)


KNOWN = {}


def slow_left(striker):
    """Tells the texts of the cells that are left, None with a clash."""
    if isinstance(striker, Book):
        return lambda line: struck_by_hand(striker, line)[1]
    if id(striker) not in KNOWN:
        # The striker is kept, so that its id is not that of another one.
        KNOWN[id(striker)] = striker, SlowBest(striker.clue, striker.width)
    return lambda line: KNOWN[id(striker)][1].followed(line)[1]


def asked_by_hand(values, word, places):
    return Line(values, [word[at] if at in places else values.letters for at in range(len(word))])


def givens_by_hand(striker, word):
    """The fewest places, and what is left of each choice of one place less."""
    left_of = slow_left(striker)
    before = []
    for size in range(len(word) + 1):
        left = []
        chosen = None
        for places in itertools.combinations(range(len(word)), size):
            left.append(left_of(asked_by_hand(striker.alphabet, word, places)))
            if chosen is None and left[-1] == list(word):
                chosen = places
        if chosen is not None:
            return chosen, before
        before = left
    return None


def some_words(seed, many):
    """Pairs of a striker and a word whose sure line is stable."""
    dice = Dice(seed)
    for values, widest, longest in ((XO, 3, 6), (ABC, 2, 5), (ABCD, 1, 4)):
        for _ in range(many):
            clue = some_clue(values, dice)
            kind = dice.below(3)
            if kind == 0:
                striker = Best(clue, 1 + dice.below(widest))
            elif kind == 1:
                striker = sound_book(clue, dice, 8, 1 + dice.below(3))
            else:
                striker = dice.book(values, 1 + dice.below(5), 3)
            for _ in range(5):
                word = "".join(values.letters[dice.below(len(values))] for _ in range(1 + dice.below(longest)))
                if striker.is_stable(Line.sure(values, word)):
                    yield striker, word


class Asked(Checks, unittest.TestCase):

    def test_letters_at_places_alone(self):
        for values, word in ((XO, "oxo"), (ABC, "abcab"), (ABCD, "d")):
            for size in range(len(word) + 1):
                for places in itertools.combinations(range(len(word)), size):
                    line = asked(values, word, places)
                    self.assertTrue(line == asked_by_hand(values, word, places) and line == asked(values, word, list(places)))
        self.exactly([str(asked(XO, "oxo", (1,))), str(asked(values=XO, word="oxo", places=[2, 0])), str(asked(XO, "x", ()))],
                     ["xo x xo", "o xo o", "xo"])

    def test_a_new_line(self):
        places = [0]
        line = asked(XO, "xo", places)
        line[1] = "x"
        places.append(1)
        self.exactly([str(line), str(asked(XO, "xo", [0]))], ["x x", "x xo"])


class GivensTold(Checks, unittest.TestCase):

    def test_as_slow_answers(self):
        sizes = {}
        strikers = {True: 0, False: 0}
        for striker, word in some_words(261, 60):
            found = givens(striker, word)
            chosen, lines = givens_by_hand(striker, word)
            self.assertIs(type(found), Givens)
            self.exactly(found.chosen, chosen)
            self.exactly(type(found.lines), tuple)
            self.exactly([str(line).split(" ") for line in found.lines], lines)
            self.assertTrue(found.striker is striker and found.word == word and len(found) == len(chosen))
            self.exactly([place in found for place in range(-1, 9)], [place in chosen for place in range(-1, 9)])
            sizes[len(found)] = sizes.get(len(found), 0) + 1
            strikers[isinstance(striker, Book)] += 1
        self.assertTrue(min(sizes.get(k, 0) for k in range(5)) > 5 and min(strikers.values()) > 50, (sizes, strikers))

    def test_examples(self):
        found = givens(PAIR, "oxo")
        self.exactly([found.chosen, [str(one) for one in found.lines], str(asked(XO, "oxo", found.chosen))],
                     [(1,), ["xo xo xo"], "xo x xo"])
        self.exactly(givens(PAIR, "ooo").chosen, (0, 1, 2))
        self.exactly([str(line) for line in givens(PAIR, "ooo").lines], ["o o xo", "o xo o", "xo o o"])
        self.raises(NotStable(), givens, PAIR, "xx")
        self.exactly(givens(striker=PAIR, word="xoxo").chosen, (0, 2))

    def test_the_first_of_the_fewest(self):
        # Each of the places tells the word.
        one = Best(Listed(XO, "xox", "oxo"), 4)
        found = givens(one, "xox")
        self.exactly([found.chosen, [str(line) for line in found.lines]], [(0,), ["xo xo xo"]])
        two = Best(Modulo(XO, "x", 2), 4)
        self.exactly([givens(two, "xoxo").chosen, len(givens(two, "xoxo").lines)], [(0, 1, 2), 6])

    def test_no_places(self):
        found = givens(Best(Listed(XO, "xox"), 4), "xox")
        self.exactly([found.chosen, found.lines, len(found), 0 in found], [(), (), 0, False])

    def test_all_places_of_eight(self):
        found = givens(EMPTY, "xoxoxoxo")
        self.exactly([found.chosen, len(found.lines), len(found)], [tuple(range(8)), 8, 8])
        self.exactly([str(line) for line in found.lines[:2]], ["x o x o x o x xo", "x o x o x o xo o"])

    def test_errors(self):
        for thing in any_values():
            if isinstance(thing, str) and thing and all(letter in "xo" for letter in thing):
                continue
            at = next((k for k, letter in enumerate(thing) if letter not in "xo"), 0) if isinstance(thing, str) else 0
            for striker in (PAIR, Best(APART, 2)):
                self.raises(BadWord(at), givens, striker, thing)
        self.raises(BadWord(0), givens, PAIR, "")
        self.raises(BadWord(9), givens, PAIR, "x" * 9 + "a")
        self.raises(BadWord(2), givens, PAIR, "xx-")
        for striker in (PAIR, EMPTY, Best(APART, 2)):
            for many in (9, 10, 30, 31, 5000):
                self.raises(TooMany("cells", 8), givens, striker, "x" * many)
        self.raises(NotStable(), givens, PAIR, "x" * 8)
        self.raises(NotStable(), givens, Best(APART, 2), "oxxo")
        self.raises(NotStable(), givens, Best(Listed(XO, "xo"), 1), "ox")
        self.exactly(givens(EMPTY, "x" * 8).chosen, tuple(range(8)))

    def test_any_value_in_givens(self):
        found = givens(EMPTY, "xo")
        for thing in any_values() + [(0,), [0], "0", 0.5, -1]:
            self.exactly(thing in found, type(thing) is int and 0 <= thing <= 1)

    def test_arguments_stay(self):
        striker = Book(XO, BEHIND, -BEHIND)
        found = givens(striker, "oxo")
        found.lines[0][1] = "x"
        self.exactly([str(line) for line in givens(striker, "oxo").lines], ["xo xo xo"])
        self.assertTrue(striker == PAIR)


class Fact(Checks, unittest.TestCase):

    def test_places_tell_as_stable_lines_say(self):
        """Givens tell a word exactly if each other stable line that it fits has an open cell at a given place."""
        for striker, word in some_words(262, 12):
            if len(word) > 3:
                continue
            sure = Line.sure(striker.alphabet, word)
            cells = [[cell for cell in striker.alphabet.each_cell() if letter in cell] for letter in word]
            others = [line for line in (Line(striker.alphabet, row) for row in itertools.product(*cells))
                      if striker.is_stable(line) and line != sure]
            for size in range(len(word) + 1):
                for places in itertools.combinations(range(len(word)), size):
                    tells = all(any(len(line[place]) > 1 for place in places) for line in others)
                    self.exactly(striker(asked(striker.alphabet, word, places)) == sure, tells)
        self.exactly(givens(Best(Every(XO), 1), "x").chosen, (0,))


if __name__ == "__main__":
    unittest.main()
