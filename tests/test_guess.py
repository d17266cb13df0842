import inspect
import unittest

from linestrikes.best import Best
from linestrikes.books import Book
from linestrikes.complete import judge_exact
from linestrikes.errors import BadNumber, TooMany, Unlike
from linestrikes.guess import Search, probed
from linestrikes.kinds import Every, Listed, Neighbours, Never, Runs
from linestrikes.lines import Line
from linestrikes.rules import Rule
from linestrikes.supports import left_by, right_words
from linestrikes.values import Values
from tests.support import ABC, ABCD, OX, XO, Checks, Dice, any_values
from tests.test_givens import slow_left
from tests.test_sound import some_clue, sound_book

APART = Neighbours(XO, "xo", "ox", "oo")
BEHIND = Rule(XO, ["x", "xo"], 1, "x")
PAIR = Book(XO, BEHIND, -BEHIND)
EMPTY = Book(XO)
ALL_STRUCK = Book(XO, Rule(XO, ["xo"], 0, "x"), Rule(XO, ["o"], 0, "o"))


def events_of(left_of, line, is_guess=False):
    """What a search comes to, in order: whether each guess clashes, and the words."""
    left = left_of(line)
    if is_guess:
        yield left is None
    if left is None:
        return
    after = Line(line.alphabet, left)
    if after.solution is not None:
        yield after.solution
        return
    place = after.open_places[0]
    for letter in after[place].letters:
        guess = after.copy()
        guess[place] = letter
        yield from events_of(left_of, guess, True)


def probed_by_hand(left_of, line, dice):
    """The texts of the cells if clashing values are taken out in any order; None with a clash."""
    left = left_of(line)
    while left is not None:
        clashing = []
        for place, text in enumerate(left):
            for letter in text if len(text) > 1 else "":
                if left_of(Line(line.alphabet, left[:place] + [letter] + left[place + 1:])) is None:
                    clashing.append((place, letter))
        if not clashing:
            return left
        place, letter = clashing[dice.below(len(clashing))]
        left = left_of(Line(line.alphabet, left[:place] + [left[place].replace(letter, "")] + left[place + 1:]))
    return None


def some_strikers(seed, many):
    """Pairs of a striker and a line."""
    dice = Dice(seed)
    for values, widest, longest in ((XO, 3, 6), (ABC, 2, 4), (ABCD, 1, 3)):
        for k in range(many):
            clue = some_clue(values, dice)
            if k % 3 == 0:
                striker = Best(clue, 1 + dice.below(widest))
            elif k % 3 == 1:
                striker = sound_book(clue, dice, 8, 1 + dice.below(3))
            else:
                striker = dice.book(values, dice.below(6), 3)
            for _ in range(3):
                yield striker, dice.line(values, 1 + dice.below(longest))


class Searches(Checks, unittest.TestCase):

    def test_as_slow_answers(self):
        """The words one by one, and how many guesses have clashed when each comes."""
        totals = [0, 0, 0]
        for striker, line in some_strikers(281, 60):
            events = list(events_of(slow_left(striker), line))
            search = Search(striker, line)
            found = search.words()
            clashes = 0
            for event in events:
                if isinstance(event, str):
                    self.exactly([next(found), search.taken_back], [event, clashes])
                    totals[0] += 1
                else:
                    clashes += event
                    totals[1] += event
            self.assertRaises(StopIteration, next, found)
            self.exactly(search.taken_back, clashes)
            totals[2] += not events
        self.assertTrue(min(totals) > 40, totals)

    def test_the_words_whose_sure_lines_are_stable(self):
        for striker, line in some_strikers(282, 50):
            words = [word for word in line.words() if striker.is_stable(Line.sure(line.alphabet, word))]
            self.exactly(list(Search(striker, line).words()), words)

    def test_most_guesses(self):
        counts = {}
        for striker, line in some_strikers(283, 25):
            events = list(events_of(slow_left(striker), line))
            guesses = sum(not isinstance(event, str) for event in events)
            for most in sorted({1, 2, 3, guesses - 1, guesses, guesses + 1, 4000}):
                if most < 1:
                    continue
                search = Search(striker, line)
                found = search.words(most=most)
                made, clashes, is_refused = 0, 0, False
                for event in events:
                    if isinstance(event, str):
                        self.exactly(next(found), event)
                    elif made == most:
                        self.raises(TooMany("guesses", most), next, found)
                        is_refused = True
                        break
                    else:
                        made += 1
                        clashes += event
                if not is_refused:
                    self.assertRaises(StopIteration, next, found)
                self.exactly(search.taken_back, clashes)
                counts[is_refused] = counts.get(is_refused, 0) + 1
        self.assertTrue(min(counts.values()) > 50, counts)

    def test_just_as_many_as_needed(self):
        # Two cells of two values: two guesses of the first cell, and two of the second one behind each.
        line = Line.free(XO, 2)
        self.exactly(list(Search(EMPTY, line).words(most=6)), ["xx", "xo", "ox", "oo"])
        found = Search(EMPTY, line).words(most=5)
        self.exactly([next(found), next(found), next(found)], ["xx", "xo", "ox"])
        self.raises(TooMany("guesses", 5), next, found)
        self.raises(TooMany("guesses", 1), next, Search(EMPTY, line).words(most=1))
        self.exactly(list(Search(EMPTY, Line.sure(XO, "xox")).words(most=1)), ["xox"])
        self.exactly(len(list(Search(EMPTY, Line.free(XO, 10)).words())), 1024)
        found = Search(EMPTY, Line.free(XO, 30)).words()
        self.exactly(len([next(found) for _ in range(1980)]), 1980)
        with self.assertRaises(TooMany):
            list(found)

    def test_each_word_is_made_when_it_is_asked_for(self):
        found = Search(Book(ABCD), Line.free(ABCD, 30)).words()
        self.exactly([next(found) for _ in range(5)], ["a" * 29 + letter for letter in "abcd"] + ["a" * 28 + "ba"])

    def test_example(self):
        line = Line(XO, ["o", "x", "o", "xo"])
        search = Search(PAIR, line)
        self.exactly([list(search.words()), search.taken_back, str(probed(PAIR, line))], [["oxox", "oxoo"], 0, "o x o xo"])

    def test_taken_back_over_several_generators(self):
        line = Line.free(XO, 3)
        odd = Book(XO, Rule(XO, ["x", "x", "x"], 0, "x"), Rule(XO, ["o", "o", "o"], 0, "o"))
        search = Search(odd, line)
        events = list(events_of(slow_left(odd), line))
        all_clashes = sum(event is True for event in events)
        self.assertTrue(all_clashes > 1)
        half = search.words()
        self.exactly(next(half), "xxo")
        ahead = search.taken_back
        self.exactly(ahead, sum(event is True for event in events[:events.index("xxo")]))
        self.exactly(list(search.words()), ["xxo", "xox", "xoo", "oxx", "oxo", "oox"])
        self.exactly(search.taken_back, ahead + all_clashes)
        other = search.words()
        self.exactly(next(other), "xxo")
        self.exactly(search.taken_back, 2 * ahead + all_clashes)
        self.exactly(list(half), ["xox", "xoo", "oxx", "oxo", "oox"])
        self.exactly(search.taken_back, ahead + 2 * all_clashes)
        self.exactly(Search(odd, line).taken_back, 0)
        # A generator that is not asked makes no guesses.
        search.words()
        self.exactly(search.taken_back, ahead + 2 * all_clashes)

    def test_the_line_as_it_is_when_the_search_is_made(self):
        line = Line(XO, ["xo", "x", "xo"])
        search = Search(PAIR, line)
        found = search.words()
        line[0] = "x"
        line &= Line.sure(XO, "xxx")
        self.exactly([list(found), list(search.words())], [["oxo"], ["oxo"]])
        other = Line.free(XO, 2)
        search = Search(EMPTY, other)
        first = search.words()
        self.exactly(next(first), "xx")
        other[0] = "o"
        self.exactly([list(first), str(other)], [["xo", "ox", "oo"], "o xo"])

    def test_lines_that_clash_and_sure_lines(self):
        bad = Line(XO, ["xo", "x", "x"])
        search = Search(PAIR, bad)
        self.exactly([list(search.words()), search.taken_back, list(search.words(most=1))], [[], 0, []])
        for striker in (PAIR, Best(APART, 2), EMPTY):
            self.exactly(list(Search(striker, Line.sure(XO, "oxo")).words(most=1)), ["oxo"])
        self.exactly([list(Search(one, Line.sure(XO, "xx")).words()) for one in (PAIR, Best(APART, 2), EMPTY)], [[], [], ["xx"]])
        for clue in (Never(XO), Listed(XO, "")):
            self.exactly(list(Search(Best(clue, 1), Line.free(XO, 3)).words()), [])
        self.exactly(list(Search(ALL_STRUCK, Line.free(XO, 3)).words()), [])

    def test_exact_strikers_take_nothing_back(self):
        dice = Dice(284)
        many = 0
        for _ in range(80):
            clue = some_clue(XO, dice)
            for striker in (Best(clue, 3), sound_book(clue, dice, 8, 3)):
                if judge_exact(striker, clue):
                    line = dice.line(XO, 1 + dice.below(7))
                    search = Search(striker, line)
                    self.exactly(list(search.words()), list(right_words(clue, line)))
                    self.exactly(search.taken_back, 0)
                    many += 1
        self.assertTrue(many > 20, many)

    def test_errors(self):
        for values in (OX, ABC, Values("xoa")):
            for striker in (PAIR, Best(APART, 2)):
                self.raises(Unlike("values"), Search, striker, Line.free(values, 2))
                self.raises(Unlike("values"), probed, striker, Line.free(values, 2))
        search = Search(PAIR, Line.free(XO, 2))
        for most in any_values() + [0, -1, 4001, True, False, 5.0, "5", None]:
            if type(most) is int and 1 <= most <= 4000:
                continue
            self.raises(BadNumber("most"), lambda: next(search.words(most=most)))
            self.raises(BadNumber("most"), lambda: next(Search(PAIR, Line(XO, ["x", "x"])).words(most=most)))
        self.exactly(search.taken_back, 0)
        self.exactly(list(search.words(most=4000)), ["xo", "ox", "oo"])
        with self.assertRaises(TypeError):
            search.words(4000)
        self.exactly(str(inspect.signature(Search.words)), "(self, *, most=4000)")
        self.exactly(list(Search(striker=PAIR, line=Line.free(XO, 1)).words()), ["x", "o"])


class Probed(Checks, unittest.TestCase):

    def test_as_slow_answers(self):
        """Clashing values are taken out in several orders."""
        dice = Dice(285)
        kinds = {"none": 0, "as struck": 0, "less": 0}
        for striker, line in some_strikers(286, 45):
            left_of = slow_left(striker)
            text = str(line)
            found = probed(striker, line)
            for _ in range(3):
                wanted = probed_by_hand(left_of, line, dice)
                self.exactly(found and str(found).split(" "), wanted)
            self.exactly(str(line), text)
            if found is None:
                kinds["none"] += 1
            else:
                self.assertIs(type(found), Line)
                kinds["as struck" if found == striker(line) else "less"] += 1
        self.assertTrue(min(kinds.values()) > 10, kinds)

    def test_examples(self):
        # Two x side by side at the start clash, however the third cell is guessed.
        book = Book(XO, Rule(XO, ["x", "x"], 0, "x"), Rule(XO, ["o", "o"], 0, "o"))
        self.exactly([str(book(Line(XO, ["xo", "x"]))), str(probed(book, Line(XO, ["xo", "x"])))], ["xo x", "o x"])
        self.exactly(str(probed(striker=book, line=Line(XO, ["x", "xo", "xo", "xo"]))), "x o x o")
        self.exactly(str(probed(book, Line.free(XO, 4))), "xo xo xo xo")
        self.exactly([probed(book, Line(XO, ["x", "xo", "o"])), probed(book, Line(XO, ["x", "x"]))], [None, None])
        self.exactly([probed(PAIR, Line(XO, ["xo", "x", "x"])), probed(ALL_STRUCK, Line.free(XO, 2))], [None, None])
        self.exactly(str(probed(Best(Runs(XO, "x", 2), 4), Line.free(XO, 3))), "xo x xo")

    def test_a_new_line(self):
        line = Line.sure(XO, "oxo")
        for striker in (PAIR, EMPTY, Best(APART, 2)):
            found = probed(striker, line)
            self.assertTrue(found == line and found is not line)
            found &= Line.sure(XO, "oxo")
            self.exactly(str(line), "o x o")
            other = Line.free(XO, 3)
            found = probed(striker, other)
            found[0] = "x"
            self.exactly(str(other), "xo xo xo")

    def test_within_what_is_left_and_around_what_right_words_leave(self):
        dice = Dice(287)
        for _ in range(60):
            clue = some_clue(XO, dice)
            striker = sound_book(clue, dice, 4, 3)
            line = dice.line(XO, 1 + dice.below(6))
            wanted = left_by(clue, line)
            found = probed(striker, line)
            if wanted is not None:
                self.assertTrue(wanted.within(found) and found.within(striker(line)) and striker.is_stable(found))

    def test_long_lines(self):
        self.exactly(str(probed(Best(Every(XO), 2), Line.free(XO, 30))), " ".join(["xo"] * 30))
        book = Book(XO, Rule(XO, ["x", "x"], 0, "x"), Rule(XO, ["o", "o"], 0, "o"))
        self.exactly(str(probed(book, Line(XO, ["xo"] * 29 + ["x"]))), " ".join(["o", "x"] * 15))


if __name__ == "__main__":
    unittest.main()
