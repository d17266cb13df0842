"""What holds of every judgement: unlike values, equal papers, and lines that are changed afterwards."""

import unittest

from linestrikes.best import Best
from linestrikes.books import Book
from linestrikes.check_compare import shows_parted, shows_stronger
from linestrikes.check_complete import shows_complete, shows_exact, shows_incomplete
from linestrikes.check_sound import shows_sound, shows_unsound
from linestrikes.compare import Parted, Stronger, alike, judge_stronger, keepers, parting
from linestrikes.complete import Complete, Exact, Incomplete, judge_complete, judge_exact
from linestrikes.errors import Unlike
from linestrikes.kinds import Every, Neighbours
from linestrikes.lines import Line
from linestrikes.rules import Rule
from linestrikes.sound import Judgement, Shown, Sound, Unsound, is_sound_rule, judge_sound
from linestrikes.supports import barring, count_words, judged_left, left_by, right_words
from linestrikes.values import Values
from linestrikes.widths import verdicts
from tests.support import ABC, OX, XO, Checks, any_values

CLASSES = {"sound": Sound, "unsound": Unsound, "complete": Complete, "incomplete": Incomplete, "exact": Exact,
           "stronger": Stronger, "parted": Parted}


def parts_of(values):
    apart = Neighbours(values, "xo", "ox", "oo")
    behind = Rule(values, ["x", "xo"], 1, "x")
    return apart, Book(values, behind, -behind), Book(values, behind), Book(values, Rule(values, ["xo"], 0, "x"))


def all_judgements(values=XO):
    """One judgement of each class and more, each made anew."""
    apart, pair, half, one = parts_of(values)
    best = Best(apart, 2)
    return [judge_sound(pair, apart), judge_sound(half, apart), judge_sound(one, apart), judge_complete(pair, apart),
            judge_complete(half, apart), judge_complete(best, apart), judge_complete(Best(apart, 1), apart),
            judge_exact(pair, apart), judge_exact(best, apart), judge_exact(one, apart), judge_exact(half, apart),
            judge_stronger(pair, half), judge_stronger(half, pair), judge_stronger(best, pair), judge_stronger(half, best),
            *verdicts(apart)]


class Judgements(Checks, unittest.TestCase):

    def test_kinds_truths_and_papers(self):
        for judged in all_judgements():
            self.assertIs(type(judged), CLASSES[judged.kind])
            self.assertIsInstance(judged, Judgement)
            is_shown = judged.kind in ("unsound", "incomplete", "parted")
            self.exactly([isinstance(judged, Shown), bool(judged)], [is_shown, not is_shown])
            paper = judged.paper()
            self.exactly([type(paper), paper[0]], [tuple, judged.kind])
        self.exactly({judged.kind for judged in all_judgements()} == set(CLASSES), True)

    def test_papers_have_the_attributes_in_order(self):
        apart, pair, half, one = parts_of(XO)
        numbers = lambda line: tuple(cell.number for cell in line)
        sound, unsound = judge_sound(pair, apart), judge_sound(one, apart)
        self.exactly(sound.paper(), ("sound", sound.lost, sound.rows))
        self.exactly(unsound.paper(), ("unsound", unsound.spoiled, unsound.place, unsound.number))
        complete, incomplete = judge_complete(pair, apart), judge_complete(half, apart)
        self.exactly(complete.paper(), ("complete", complete.table))
        self.exactly(incomplete.paper(),
                     ("incomplete", numbers(incomplete.line), incomplete.place, incomplete.value, incomplete.sets))
        exact = judge_exact(pair, apart)
        self.exactly(exact.paper(), ("exact", exact.sound.paper(), exact.complete.paper()))
        best = judge_exact(Best(apart, 2), apart)
        self.exactly(best.paper(), ("exact", None, best.complete.paper()))
        stronger, parted = judge_stronger(pair, half), judge_stronger(half, pair)
        self.exactly([stronger.paper(), parted.paper()], [("stronger", stronger.table), ("parted", numbers(parted.line))])

    def test_equal_by_class_and_paper(self):
        ones, others = all_judgements(), all_judgements()
        for one in ones:
            for other in others:
                wanted = type(one) is type(other) and one.paper() == other.paper()
                self.exactly([one == other, one != other], [wanted, not wanted])
        for k, one in enumerate(ones):
            self.assertTrue(one == others[k])
            for thing in any_values() + [one.paper(), list(one.paper()), one.kind]:
                self.exactly([one == thing, thing == one], [False, False])
        apart, pair, _, _ = parts_of(XO)
        # Papers of a book and of a best striker may be equal.
        self.assertTrue(judge_complete(pair, apart) == judge_complete(Best(apart, 2), apart))
        # Of unlike values too, if they are alike otherwise.
        turned = Rule(OX, ["o", "ox"], 1, "o")
        self.assertTrue(judge_stronger(Book(OX, turned), Book(OX)) == judge_stronger(parts_of(XO)[2], Book(XO)))

    def test_lines_that_are_changed_afterwards(self):
        for judged, again in zip(all_judgements(), all_judgements()):
            if judged.kind not in ("incomplete", "parted"):
                continue
            paper = judged.paper()
            line = judged.line
            at = line.open_places[0] if line.open_places else None
            if at is not None:
                line[at] = line[at].letters[0]
                self.assertTrue(judged.line is line and line != again.line)
            self.exactly(judged.paper(), paper)
            self.assertTrue(judged == again and again == judged)

    def test_shown_by_the_checkers(self):
        apart, pair, half, one = parts_of(XO)
        best = Best(apart, 2)
        self.exactly(shows_sound(pair, apart, judge_sound(pair, apart).paper()[1:]), True)
        self.exactly(shows_unsound(one, apart, judge_sound(one, apart).paper()[1:]), True)
        for striker in (pair, best):
            self.exactly(shows_complete(striker, apart, judge_complete(striker, apart).paper()[1]), True)
            exact = judge_exact(striker, apart)
            sound = None if exact.sound is None else exact.sound.paper()[1:]
            self.exactly(shows_exact(striker, apart, (sound, exact.complete.table)), True)
        for striker in (half, Best(apart, 1)):
            self.exactly(shows_incomplete(striker, apart, judge_complete(striker, apart).paper()[1:]), True)
        for first, second in ((pair, half), (best, half), (pair, best), (best, pair)):
            self.exactly(shows_stronger(first, second, judge_stronger(first, second).paper()[1]), True)
        for first, second in ((half, pair), (half, best), (Best(apart, 1), pair)):
            self.exactly(shows_parted(first, second, judge_stronger(first, second).paper()[1]), True)

    def test_unlike_values(self):
        apart, pair, _, _ = parts_of(XO)
        best = Best(apart, 2)
        for values in (OX, ABC, Values("xoa"), Values("ax")):
            clue, book, line = Every(values), Book(values), Line.free(values, 2)
            for ask in (judge_sound, judge_complete, judge_exact):
                self.raises(Unlike("values"), ask, pair, clue)
                self.raises(Unlike("values"), ask, book, apart)
            self.raises(Unlike("values"), judge_complete, best, clue)
            self.raises(Unlike("values"), judge_exact, best, clue)
            self.raises(Unlike("values"), is_sound_rule, pair[0], clue)
            for one in (pair, best):
                for other in (book, Best(clue, 1)):
                    for ask in (judge_stronger, parting, alike):
                        self.raises(Unlike("values"), ask, one, other)
                        self.raises(Unlike("values"), ask, other, one)
            for ask in (count_words, left_by, barring, judged_left):
                self.raises(Unlike("values"), ask, apart, line)
            self.raises(Unlike("values"), lambda: next(right_words(apart, line)))
        # Equal values that were made anew are no unlike ones.
        self.assertTrue(judge_exact(pair, Neighbours(Values("xo"), "xo", "ox", "oo")))

    def test_lines_of_keepers_and_of_partings(self):
        _, pair, half, _ = parts_of(XO)
        for ask, text, at in ((lambda: keepers(pair)[0], "x xo", 1), (lambda: parting(pair, half), "xo x", 0)):
            line = ask()
            self.exactly(str(line), text)
            line[at] = "o"
            self.exactly(str(ask()), text)


if __name__ == "__main__":
    unittest.main()
