import unittest

from linestrikes.books import Book
from linestrikes.clues import Clue, Machine
from linestrikes.errors import BadBook, BadClue, BadMachine, BadNumber, BadText, LineError, TooMany
from linestrikes.kinds import Ends, Every, Few, Listed, Modulo, Neighbours, Never, Runs
from linestrikes.lines import Line
from linestrikes.reader import read, read_book, read_clue, read_line, read_trail
from linestrikes.rules import Rule
from linestrikes.texts import write_book, write_clue, write_line, write_trail
from tests.slow_texts import wrong_place
from tests.support import ABC, ABCD, XO, Checks, Dice, any_values

READERS = {"line": read_line, "book": read_book, "clue": read_clue, "trail": read_trail}
BOOK = Book(ABC, Rule(ABC, ["ab", "abc"], 1, "c"), Rule(ABC, ["c"], 0, "c", left=True, right=True),
            Rule(ABC, ["abc", "b", "ac", "a"], 2, "a", right=True))
LINE_TEXT = "line abc\ncells ab c abc"
BOOK_TEXT = write_book(BOOK)
MACHINE_TEXT = "clue xo\nmachine\nyes 1 0\nno 0 1"
KINDS_TEXT = ("clue abc\nnever\nruns a 1 2\nnot few b 3\nmodulo c 3 1\nneighbours ab bc aa\nends a b\nlisted - abca b\nnot every\n"
              "never\nruns b\nneighbours\nlisted\nnot listed -")
TRAIL_TEXT = "trail abc\nstrike 0 1\nstrike 12 0\nleft ab c"
TEXTS = {"line": [LINE_TEXT], "book": [BOOK_TEXT, "book xo", "book xo\nrule [ xo strike x at 0"],
         "clue": [MACHINE_TEXT, KINDS_TEXT, "clue xo\nevery", "clue abcd\nnot ends d a"],
         "trail": [TRAIL_TEXT, "trail xo\nclash", "trail xo\nleft x"]}
ODD_WORDS = ["", "x", "o", "a", "b", "ab", "ba", "abc", "cb", "aa", "d", "-", "0", "1", "2", "12", "01", "-1", "+1", "00",
             "999999999", "1000000000", "1.0", "strike", "at", "[", "]", "rule", "cells", "left", "clash", "machine", "yes",
             "not", "every", "runs", "line", "A", "~", "."]
ODD_ROWS = ["", "every", "machine", "yes 0 0", "no 1 0", "clash", "left x", "strike 0 0", "rule x strike x at 0", "cells x", " ",
            "not", "x"]


def outcome(ask, text):
    """BadText with its place, another error with its fields, or None."""
    try:
        ask(text)
    except BadText as error:
        return error.line, error.word
    except LineError:
        return None
    return None


def changed_texts(text):
    """Texts like this one, each with one change of a word, a line, or a sign."""
    rows = [row.split(" ") for row in text.split("\n")]
    for at, row in enumerate(rows):
        for k in range(len(row) + 1):
            for odd in ODD_WORDS:
                yield joined(rows[:at] + [row[:k] + [odd] + row[k:]] + rows[at + 1:])
                yield joined(rows[:at] + [row[:k] + [odd] + row[k + 1:]] + rows[at + 1:])
            yield joined(rows[:at] + [row[:k] + row[k + 1:]] + rows[at + 1:])
            yield joined(rows[:at] + [row[:k]])
            yield joined(rows[:at] + [row[:k] + row[k - 1:k] + row[k:]] + rows[at + 1:])
        yield joined(rows[:at])
        yield joined(rows[:at] + rows[at + 1:])
        for odd in ODD_ROWS:
            yield joined(rows[:at] + [odd.split(" ")] + rows[at:])
            yield joined(rows[:at] + [odd.split(" ")] + rows[at + 1:])
    for odd in ODD_ROWS:
        yield text + "\n" + odd
    yield from [text + "\n", "\n" + text, text + " ", " " + text, text.upper(), text.replace(" ", "  "), text.replace("\n", " ")]


def joined(rows):
    return "\n".join([" ".join(row) for row in rows])


class FirstWrongWords(Checks, unittest.TestCase):

    def test_each_change(self):
        many = {None: 0, "bad": 0}
        for kind, texts in TEXTS.items():
            for text in texts:
                self.exactly(wrong_place(kind, text), None)
                for other in changed_texts(text):
                    wanted = wrong_place(kind, other)
                    self.exactly(outcome(READERS[kind], other), wanted, other)
                    many[wanted and "bad"] += 1
                    if other.split("\n")[0].split(" ")[0] == kind:
                        self.exactly(outcome(read, other), wanted, other)
        self.assertTrue(many["bad"] > 5000 and many[None] > 300, many)

    def test_mixed_texts(self):
        dice = Dice(301)
        for kind, texts in TEXTS.items():
            for text in texts:
                for _ in range(150):
                    rows = [row.split(" ") for row in text.split("\n")]
                    for _ in range(1 + dice.below(3)):
                        row = rows[dice.below(len(rows))]
                        row[dice.below(len(row))] = ODD_WORDS[dice.below(len(ODD_WORDS))]
                    self.exactly(outcome(READERS[kind], joined(rows)), wrong_place(kind, joined(rows)), joined(rows))

    def test_values_that_are_no_text(self):
        for thing in any_values():
            for ask in (*READERS.values(), read):
                if isinstance(thing, str) and thing.split(" ")[0].split("\n")[0] in READERS:
                    continue
                self.raises(BadText(0, 0), ask, thing)
        self.raises(BadText(0, 0), read, "")
        for text in ("lines xo", "Line xo\ncells x", " line xo\ncells x", "book\txo", "cells x", "\nline xo\ncells x", "-"):
            self.raises(BadText(0, 0), read, text)
        for kind, ask in READERS.items():
            for other in READERS:
                if other != kind:
                    self.raises(BadText(0, 0), ask, TEXTS[other][0])
            self.raises(BadText(0, 1), ask, kind)
            self.raises(BadText(0, 1), read, kind)

    def test_letters(self):
        for kind, ask in READERS.items():
            for letters in ("x", "abcde", "xx", "aba", "xO", "x1", "", "-", "XO", "ab.", "abcda", "xo-"):
                self.raises(BadText(0, 1), ask, f"{kind} {letters}\n")
            for letters in ("xo", "abc", "zyxw"):
                if kind != "book":
                    self.raises(BadText(1, 0), ask, f"{kind} {letters}")
                self.raises(BadText(0, 2), ask, f"{kind} {letters} xo\n")
                self.raises(BadText(0, 2), ask, f"{kind} {letters} ")
                self.raises(BadText(1, 0), ask, f"{kind} {letters}\n")

    def test_examples(self):
        self.assertTrue(read_clue("clue xo\nneighbours xo ox oo\nnot ends x x")
                        == Neighbours(XO, "xo", "ox", "oo") - Ends(XO, "x", "x"))
        self.raises(BadText(1, 2), read_line, "line xo\ncells xo ox")
        self.raises(BadText(1, 5), read_book, "book xo\nrule x xo strike x")
        self.raises(BadText(1, 0), read, "clue xo")
        self.raises(BadText(2, 0), read_line, "line xo\ncells x\n")
        self.raises(BadText(2, 0), read_line, "line xo\ncells x\ncells x")
        self.raises(BadText(1, 1), read_line, "line xo\ncells")
        self.raises(BadText(1, 1), read_line, "line xo\ncells ")

    def test_long_lines(self):
        self.assertTrue(read_line("line xo\ncells" + " x" * 4001) == Line.sure(XO, "x" * 4001))
        for word in ("x", "", "ox", "?"):
            self.raises(BadText(1, 4002), read_line, "line xo\ncells" + " x" * 4001 + " " + word)
        self.raises(BadText(1, 4001), read_line, "line xo\ncells" + " x" * 4000 + " ox")
        self.raises(BadText(1, 4002), read_trail, "trail xo\nleft" + " x" * 4002)
        self.exactly(len(read_trail("trail xo\nleft" + " xo" * 4001)[1]), 4001)


class ReadLines(Checks, unittest.TestCase):

    def test_lines(self):
        line = read_line(text=LINE_TEXT)
        self.assertTrue(type(line) is Line and line == Line(ABC, ["ab", "c", "abc"]) and read(text=LINE_TEXT) == line)
        self.exactly(write_line(line), LINE_TEXT)
        self.exactly(read_line("line zyxw\ncells zyxw w zw").alphabet.letters, "zyxw")
        for cell in ("", ".", "ox", "xx", "xox", "X", "y", "0", "xo,"):
            self.raises(BadText(1, 2), read_line, f"line xo\ncells x {cell} o ?")

    def test_trails(self):
        found = read_trail(text=TRAIL_TEXT)
        self.exactly([type(found), len(found), found[0]], [tuple, 2, ((0, 1), (12, 0))])
        self.assertTrue(type(found[1]) is Line and found[1] == Line(ABC, ["ab", "c"]))
        self.exactly(read_trail("trail xo\nclash"), ((), None))
        self.exactly(read("trail xo\nstrike 999999999 0\nclash"), (((999999999, 0),), None))
        self.exactly(write_trail(ABC, *read_trail(TRAIL_TEXT)), TRAIL_TEXT)
        for text, place in (("trail xo\nstrike 0", (1, 2)), ("trail xo\nstrike 0 0 0\nclash", (1, 3)), ("trail xo\nclash\nclash", (2, 0)),
                            ("trail xo\nclash x", (1, 1)), ("trail xo\nleft", (1, 1)), ("trail xo\nstrike 0 0", (2, 0)),
                            ("trail xo\nleft x\nstrike 0 0", (2, 0)), ("trail xo\nstrike 00 0", (1, 1)), ("trail xo\nleft x ", (1, 2)),
                            ("trail xo\nstrike 0 1000000000\nclash", (1, 2)), ("trail xo\nstrike -1 0", (1, 1))):
            self.raises(BadText(*place), read_trail, text)

    def test_numbers(self):
        for number in ("0", "1", "9", "10", "999999999", "123456789"):
            self.exactly(read_trail(f"trail xo\nstrike {number} {number}\nclash")[0], ((int(number), int(number)),))
        for number in ("", "00", "01", "-1", "+1", "-0", "1000000000", "1234567890", "0000000001", "1_0", "1e3", "0x1", "1.0",
                       "x", "-", "9" * 60, "1,0"):
            self.raises(BadText(1, 1), read_trail, f"trail xo\nstrike {number} 0\nclash")
            self.raises(BadText(1, 2), read_clue, f"clue xo\nfew x {number}")


class ReadBooks(Checks, unittest.TestCase):

    def test_books(self):
        self.assertTrue(read_book(text=BOOK_TEXT) == BOOK and type(read_book(BOOK_TEXT)) is Book)
        self.assertTrue(read_book("book xo") == Book(XO) and read("book abcd") == Book(ABCD))
        self.exactly(write_book(read_book(BOOK_TEXT)), BOOK_TEXT)

    def test_a_rule_as_rule_read_takes_it(self):
        texts = ["x xo strike x at 1", "[ xo strike x at 0", "x o xo o ] strike o at 3", "[ x ] strike x at 0", "x xo strike o at 0",
                 "x ox strike x at 1", "x o xo o x strike o at 3", "x xo strike x", "x xo strike x at", "strike x at 0", "[ ] strike x at 0",
                 "[ [ x strike x at 0", "x ] ] strike x at 0", "x strike o at 0", "x strike x at 1", "x strike x at 0 0", "", "x xo at 0",
                 "xo strike x at 00", "x [ strike x at 0"]
        for text in texts:
            try:
                rule = Rule.read(XO, text)
            except BadText as error:
                self.raises(BadText(1, error.word + 1), read_book, "book xo\nrule " + text)
                self.raises(BadText(2, error.word + 1), read_book, "book xo\nrule x strike x at 0\nrule " + text + "\n?")
            else:
                self.assertTrue(read_book("book xo\nrule " + text) == Book(XO, rule))
        self.raises(BadText(1, 1), read_book, "book xo\nrule")
        self.raises(BadText(1, 0), read_book, "book xo\nRule x strike x at 0")

    def test_what_book_raises_comes_behind_the_whole_text(self):
        rows = ["rule x strike x at 0"] * 41
        self.raises(BadBook(1), read_book, "\n".join(["book xo"] + rows[:2]))
        self.raises(BadBook(1), read_book, "\n".join(["book xo"] + rows[:40]))
        self.raises(BadBook(None), read_book, "\n".join(["book xo"] + rows))
        self.raises(BadText(42, 0), read_book, "\n".join(["book xo"] + rows + [""]))
        self.raises(BadText(3, 2), read_book, "\n".join(["book xo"] + rows[:2] + ["rule x ?"]))


class ReadClues(Checks, unittest.TestCase):

    def test_all_kinds(self):
        for row, clue in (("runs a", Runs(ABC, "a")), ("runs b 1 20", Runs(ABC, "b", 1, 20)), ("few c 0", Few(ABC, "c", 0)),
                          ("few a 20", Few(ABC, "a", 20)), ("modulo b 3 2", Modulo(ABC, "b", 3, 2)),
                          ("modulo b 20 0", Modulo(ABC, "b", 20)), ("neighbours", Neighbours(ABC)),
                          ("neighbours ab bb ab", Neighbours(ABC, "ab", "bb")), ("ends a c", Ends(ABC, "a", "c")),
                          ("listed", Listed(ABC)), ("listed -", Listed(ABC, "")), ("listed - cab cab", Listed(ABC, "", "cab")),
                          ("listed " + "a" * 30, Listed(ABC, "a" * 30)), ("every", Every(ABC)), ("never", Never(ABC))):
            for ask in (read_clue, read):
                found = ask("clue abc\n" + row)
                self.assertTrue(isinstance(found, Clue) and found == clue, row)
                self.assertTrue(ask("clue abc\nnot " + row) == ~clue, row)
                self.assertTrue(ask("clue abc\nmodulo a 2 1\n" + row) == Modulo(ABC, "a", 2, 1) & clue, row)
        self.assertTrue(read_clue("clue abc\nruns c 30 30") == Runs(ABC, "c", 30, 30))
        self.assertTrue(read_clue("clue abc\nfew a 60") == Few(ABC, "a", 60))
        self.assertTrue(read_clue("clue abc\nmodulo b 60 59") == Modulo(ABC, "b", 60, 59))
        self.assertTrue(read_clue(text=KINDS_TEXT) == Never(ABC))
        self.assertTrue(read_clue("clue xo\nfew x 2\nnot few x 1\nends x o") == (Few(XO, "x", 2) - Few(XO, "x", 1)) & Ends(XO, "x", "o"))

    def test_wrong_rows(self):
        for row, word in (("", 0), ("not", 1), ("not not every", 1), ("not machine", 1), ("every x", 1), ("never -", 1), ("runs", 1),
                          ("runs xo", 1), ("runs x 1 x", 3), ("runs x -", 2), ("few x", 2), ("few 1 x", 1), ("few x 1 1", 3),
                          ("modulo x 2", 3), ("modulo x 2 1 0", 4), ("neighbours x", 1), ("neighbours xo xox", 2),
                          ("neighbours xo ", 2), ("neighbours xo -", 2), ("ends x", 2), ("ends xo x", 1), ("ends x o x", 3),
                          ("ends - x", 1), ("ends x .", 2), ("listed x y", 2), ("listed  x", 1), ("listed x -- o", 2), ("listed .", 1),
                          ("machine x", 1), ("yes 0 0", 0), ("machines", 0), ("Every", 0), ("runs y", 1)):
            self.raises(BadText(1, word), read_clue, "clue xo\n" + row)
            if not row.startswith("machine "):
                self.raises(BadText(2, word), read_clue, "clue xo\nevery\n" + row)
        self.raises(BadText(2, 0), read_clue, "clue xo\nevery\nmachine\nyes 0 0")
        self.raises(BadText(2, 0), read_clue, "clue xo\nevery\n")

    def test_errors_of_kinds_in_the_order_of_the_lines(self):
        for row, error in (("runs x 31", BadClue(0)), ("runs x 1 0", BadClue(1)), ("runs x" + " 1" * 9, BadClue("lengths")),
                           ("runs x" + " 30" * 3, TooMany("states", 64)), ("few x 61", BadNumber("most")),
                           ("modulo x 0 0", BadNumber("modulus")), ("modulo x 61 0", BadNumber("modulus")),
                           ("modulo x 2 2", BadNumber("rest")), ("listed" + " x" * 21, BadClue("words")),
                           ("listed o " + "x" * 31, BadClue(1)), ("listed - - " + "o" * 31, BadClue(2))):
            for text in ("clue xo\n" + row, "clue xo\nnot " + row, "clue xo\nevery\n" + row + "\nfew x 62"):
                self.raises(error, read_clue, text)
                self.raises(error, read, text)
            self.raises(BadText(2, 1), read_clue, "clue xo\n" + row + "\nevery every")
            self.raises(BadText(2, 0), read_clue, "clue xo\n" + row + "\n")

    def test_errors_of_joined_clues(self):
        rows = ["modulo x 8 0", "modulo o 9 0"]
        self.raises(TooMany("states", 64), read_clue, "\n".join(["clue xo"] + rows))
        # All kinds are made ahead of the first sign; from the first to the last line they are joined.
        self.raises(BadNumber("most"), read_clue, "\n".join(["clue xo"] + rows + ["few x 61"]))
        self.raises(TooMany("states", 64), read_clue, "\n".join(["clue xo"] + rows + ["never"]))
        self.assertTrue(read_clue("\n".join(["clue xo", "never"] + rows)) == Never(XO))
        self.assertTrue(read_clue("\n".join(["clue xo", rows[0], "never", rows[1]])) == Never(XO))

    def test_machines(self):
        found = read_clue(text=MACHINE_TEXT)
        self.assertTrue(isinstance(found, Machine) and found == Machine(XO, [[1, 0], [0, 1]], [True, False]))
        self.assertTrue(read_clue("clue abcd\nmachine\nno 0 0 0 0") == Never(ABCD))
        for many in (1, 2, 11, 12):
            rows = [f"{'yes' if k % 3 == 0 else 'no'} {(k + 1) % many} {k}" for k in range(many)]
            wanted = Machine(XO, [[(k + 1) % many, k] for k in range(many)], [k % 3 == 0 for k in range(many)])
            self.assertTrue(read_clue("\n".join(["clue xo", "machine"] + rows)) == wanted)
        for many in (13, 14, 100):
            rows = ["yes 0 0"] * many
            self.raises(BadMachine("steps"), read_clue, "\n".join(["clue xo", "machine"] + rows))
            self.raises(BadText(many + 2, 0), read_clue, "\n".join(["clue xo", "machine"] + rows + ["maybe 0 0"]))
        for row in ("yes 2 0", "no 0 2", "yes 999999999 0"):
            self.raises(BadMachine("steps"), read_clue, f"clue xo\nmachine\n{row}\nno 0 1")
            self.raises(BadText(4, 0), read_clue, f"clue xo\nmachine\n{row}\nno 0 1\n")
        for text, place in (("clue xo\nmachine", (2, 0)), ("clue xo\nmachine\n", (2, 0)), ("clue xo\nmachine\nyes", (2, 1)),
                            ("clue xo\nmachine\nyes 0", (2, 2)), ("clue xo\nmachine\nyes 0 0 0", (2, 3)),
                            ("clue xo\nmachine\nYes 0 0", (2, 0)), ("clue xo\nmachine\nyes 0 x", (2, 2)),
                            ("clue xo\nmachine\nyes 0 0\nevery", (3, 0)), ("clue xo\nmachine\nmachine", (2, 0)),
                            ("clue abc\nmachine\nyes 0 0", (2, 3)), ("clue xo\nmachine \nyes 0 0", (1, 1))):
            self.raises(BadText(*place), read_clue, text)

    def test_what_is_written_of_more_than_twelve_states(self):
        self.raises(BadMachine("steps"), read_clue, write_clue(Few(XO, "x", 11)))
        self.assertTrue(read_clue(write_clue(Few(XO, "x", 10))) == Few(XO, "x", 10))


if __name__ == "__main__":
    unittest.main()
