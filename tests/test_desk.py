import unittest

from linestrikes.best import Best
from linestrikes.books import Book
from linestrikes.compare import trimmed
from linestrikes.complete import judge_complete
from linestrikes.desk import Desk
from linestrikes.errors import BadSay
from linestrikes.kinds import Ends, Every, Few, Modulo, Neighbours, Runs
from linestrikes.lines import Line
from linestrikes.rules import Rule
from tests.slow_texts import fixed, kind_forms, many_cells, rule_forms, wrong_word
from tests.support import XO, Checks, Dice, any_values

START = ("values xo", "clue neighbours xo ox oo", "rule x xo strike x at 1", "rule xo x strike x at 0", "line xo x xo xo")
NEED_LINE = ["set 0 x", "strike", "back", "should", "words", "search"]
FORMS = {"values": [], "drop": ["NUMBER"], "rules": [], "set": ["NUMBER", "CELL"], "strike": [], "back": [], "should": [],
         "words": [], "sound": [], "complete": [], "best": ["NUMBER"], "width": [], "trim": [], "givens": ["WORD"], "search": []}
GOOD_LINES = ["clue runs x 1 2", "and not every", "or listed - xo", "rule [ x xo ] strike x at 1", "drop 1", "rules", "line x xo o",
              "set 1 xo", "strike", "back", "should", "words", "sound", "complete", "best 2", "width", "trim", "givens xo", "search",
              "values ox", "givens -", "clue modulo x 3 1", "and neighbours", "or ends x o"]
ODD_WORDS = ["", "x", "o", "xo", "ox", "a", "-", "0", "1", "12", "01", "-1", "1000000000", "strike", "at", "[", "]", "not", "every",
             "runs", "set", "values", "X", "\n", "x\n", "~", "none"]


def desk_after(*lines):
    desk = Desk()
    desk.run(*lines)
    return desk


def forms_of(word, letters):
    """The forms of a line with this first word."""
    if word == "rule":
        return rule_forms(["rule"], letters)
    if word in ("clue", "and", "or"):
        return kind_forms([word])
    if word == "line":
        return many_cells(["line"], 30)
    return fixed(word, *FORMS[word])


def wrong_say(line, letters="xo"):
    """The word of the BadSay that a desk with values must raise, None if the line is of a form."""
    words = line.split(" ")
    if words[0] not in (*FORMS, "rule", "clue", "and", "or", "line"):
        return 0
    if words[0] == "values":
        if len(words) == 1:
            return 1
        is_right = 2 <= len(words[1]) <= 4 and len(set(words[1])) == len(words[1]) and all("a" <= k <= "z" for k in words[1])
        return (None if len(words) == 2 else 2) if is_right else 1
    return wrong_word(words, letters, forms_of(words[0], letters))


class Lines(Checks, unittest.TestCase):

    def says(self, desk, *pairs):
        for line, answer in pairs:
            self.exactly(desk(line), answer, line)

    def test_example(self):
        desk = Desk()
        self.exactly(desk.run("strike", "values xo", "clue neighbours xo ox oo", "rule x xo strike x at 1", "line xo x xo", "strike",
                              "should", "back", "set 0 x", "strike"),
                     ["no values", "ok", "ok", "ok", "ok", "left xo x o", "left o x o", "ok", "ok", "clash at 1 by 0 at 0"])
        self.exactly(desk.run("complete", "best 2", "rule xo x strike x at 0", "sound", "givens oxo", "width"),
                     ["leaves x at 0 of xo x", "complete 24", "ok", "sound", "1", "2"])
        self.raises(BadSay(2), desk, "set 0  x")

    def test_each_line_of_the_table(self):
        desk = desk_after(*START)
        self.says(desk, ("rules", "x xo strike x at 1 / xo x strike x at 0"), ("words", "2"), ("should", "left o x o xo"),
                  ("sound", "sound"), ("complete", "complete 24"), ("best 1", "leaves x at 0 of x x"), ("best 2", "complete 24"),
                  ("width", "2"), ("givens oxo", "1"), ("givens ooo", "0 1 2"), ("search", "oxox oxoo"), ("strike", "left o x o xo"),
                  ("set 3 o", "ok"), ("search", "oxoo"), ("words", "1"), ("back", "ok"), ("back", "ok"), ("back", "nothing"),
                  ("search", "oxox oxoo"), ("rule x x strike x at 0", "ok"), ("trim", "ok 2"), ("drop 0", "ok"),
                  ("rules", "xo x strike x at 0"), ("complete", "leaves x at 1 of x xo"), ("drop 0", "ok"), ("rules", "none"),
                  ("trim", "ok 0"), ("strike", "left xo x xo xo"), ("search", "xxxx xxxo xxox xxoo oxxx oxxo oxox oxoo"),
                  ("clue runs x", "ok"), ("should", "none"), ("words", "0"), ("rule xo strike x at 0", "ok"), ("line xo o", "ok"),
                  ("should", "left o o"), ("sound", "sound"), ("clue every", "ok"), ("sound", "spoils x at 0 by 0"), ("width", "1"),
                  ("clue modulo x 2 0", "ok"), ("width", "none"), ("sound", "spoils xx at 0 by 0"), ("values ab", "ok"),
                  ("rules", "none"), ("words", "no line"), ("width", "1"), ("sound", "sound"), ("complete", "complete 3"),
                  ("line ab", "ok"), ("search", "a b"), ("words", "2"), ("should", "left ab"))

    def test_clues_are_joined(self):
        desk = desk_after("values xo", "line xo xo xo")
        clue = Every(XO)
        for word, text, kind in (("clue", "runs x 1", Runs(XO, "x", 1)), ("or", "not few x 2", ~Few(XO, "x", 2)),
                                 ("and", "ends x xo", None), ("and", "ends x o", Ends(XO, "x", "o")),
                                 ("or", "neighbours xo ox", Neighbours(XO, "xo", "ox")), ("and", "not never", Every(XO)),
                                 ("clue", "modulo x 2 1", Modulo(XO, "x", 2, 1)), ("or", "never", ~Every(XO))):
            if kind is None:
                self.raises(BadSay(3), desk, f"{word} {text}")
                continue
            self.exactly(desk(f"{word} {text}"), "ok")
            clue = kind if word == "clue" else clue & kind if word == "and" else clue | kind
            self.exactly(desk("words"), str(clue.count(3)))

    def test_ahead_of_values(self):
        """Only the first word of another line is looked at."""
        for line in GOOD_LINES + ["set", "set x", "rule", "drop x y z", "line", "givens ?", "clue", "and machine", "best", "words  "]:
            if line.startswith("values"):
                continue
            desk = Desk()
            self.exactly([desk(line), desk.line_copy()], ["no values", None])
        for line in ("", " strike", "Strike", "strik", "strikes", "undo", " ", "strike\n", "\nstrike", "set\t0", "value xo", "none"):
            self.raises(BadSay(0), Desk(), line)
        for line, word in (("values", 1), ("values x", 1), ("values abcde", 1), ("values xx", 1), ("values xo xo", 2), ("values xo ", 2),
                           ("values  xo", 1), ("values XO", 1), ("values xo\n", 1)):
            self.raises(BadSay(word), Desk(), line)
        desk = Desk()
        with self.assertRaises(BadSay):
            desk("values x")
        self.exactly(desk("rules"), "no values")

    def test_ahead_of_a_line(self):
        desk = desk_after("values xo")
        for line in NEED_LINE:
            self.exactly([desk(line), desk.line_copy()], ["no line", None])
        for line, word in (("set", 1), ("set 0", 2), ("set x x", 1), ("set 0 x x", 3), ("set 0 ox", 2), ("strike x", 1), ("back 1", 1),
                           ("should ", 1), ("words words", 1), ("search x", 1)):
            self.raises(BadSay(word), desk, line)
        # A cell that no line has is looked at behind that.
        self.exactly([desk("set 99 x"), desk("line x"), desk("set 99 x"), desk("set 1 x"), desk("set 0 x")],
                     ["no line", "ok", "refused NoCell", "refused NoCell", "ok"])
        # New values have no line.
        self.exactly(desk.run("values ab", *NEED_LINE[1:]), ["ok"] + ["no line"] * 5)

    def test_lines_of_no_form(self):
        many = [0, 0]
        for line in GOOD_LINES:
            words = line.split(" ")
            self.exactly(wrong_say(line), None, line)
            others = [line + " ", " " + line, line.replace(" ", "  "), line.upper(), line + "\n", line.replace(" ", "\n")]
            for k in range(len(words) + 1):
                others.append(" ".join(words[:k]))
                for odd in ODD_WORDS:
                    others.append(" ".join(words[:k] + [odd] + words[k:]))
                    others.append(" ".join(words[:k] + [odd] + words[k + 1:]))
                others.append(" ".join(words[:k] + words[k + 1:]))
            for other in others:
                wanted = wrong_say(other)
                many[wanted is None] += 1
                desk = desk_after(*START)
                if wanted is None:
                    self.assertIsInstance(desk(other), str)
                else:
                    before = state_of(desk)
                    self.raises(BadSay(wanted), desk, other)
                    self.raises(BadSay(wanted), desk.say, other)
                    self.exactly(state_of(desk), before)
        self.assertTrue(many[0] > 1500 and many[1] > 100, many)

    def test_values_that_are_no_line(self):
        for desk in (Desk(), desk_after(*START)):
            for thing in any_values():
                if thing == "strike":
                    continue
                self.raises(BadSay(0), desk, thing)
                self.raises(BadSay(0), desk.say, thing)
                self.raises(BadSay(0), desk.run, thing)

    def test_a_line_of_thirty_cells(self):
        desk = desk_after("values xo")
        self.exactly([desk("line" + " xo" * 30), desk("words")], ["ok", str(2 ** 30)])
        self.raises(BadSay(31), desk, "line" + " xo" * 31)
        self.raises(BadSay(31), desk, "line" + " xo" * 30 + " ?")
        self.raises(BadSay(1), desk, "line")
        self.exactly(len(desk.line_copy()), 30)

    def test_say_and_call_alike(self):
        one, other = Desk(), Desk()
        for line in ("rules", *START, *GOOD_LINES):
            self.exactly(one(line), other.say(line))
            self.exactly(state_of(one), state_of(other))
        self.exactly(Desk().say(line="words"), "no values")
        self.exactly(Desk()(line="words"), "no values")

    def test_run(self):
        desk = Desk()
        self.exactly([desk.run(), desk.run("values xo", "line xo xo")], [[], ["ok", "ok"]])
        self.raises(BadSay(2), desk.run, "set 0 x", "set 1", "set 1 o")
        self.exactly(str(desk.line_copy()), "x xo")
        self.raises(BadSay(0), desk.run, None, "set 1 o")
        self.exactly(desk.run("back", "back"), ["ok", "nothing"])

    def test_line_copy(self):
        desk = desk_after("values xo")
        self.exactly(desk.line_copy(), None)
        desk.run("line xo x")
        line = desk.line_copy()
        self.assertIs(type(line), Line)
        line[0] = "o"
        self.exactly([str(desk.line_copy()), str(line), desk("strike")], ["xo x", "o x", "left xo x"])

    def test_desks_are_their_own(self):
        one, other = desk_after(*START), Desk()
        self.exactly([other("words"), one("words")], ["no values", "2"])


def state_of(desk):
    """What the desk tells of all that it keeps; the lines that come back, too."""
    if desk("rules") == "no values":
        return ["no values"]
    told = [desk("rules"), desk("sound"), desk("width"), str(desk.line_copy())]
    # The clue is told by the number of right words of a line, which does not change the desk if there is one.
    if desk.line_copy() is not None:
        told.extend([desk("words"), desk("should"), desk("search")])
    return told


class Answers(Checks, unittest.TestCase):

    def test_clashes(self):
        desk = desk_after(*START)
        self.exactly(desk.run("line xo x x", "strike", "set 1 o", "set 0 xo", "set 2 o"),
                     ["ok", "clash at 2 by 0 at 1", "clash at 1", "ok", "clash at 2"])
        self.exactly(str(desk.line_copy()), "xo x x")
        self.exactly(desk.run("back", "back", "set 0 x", "strike", "line x x o", "strike"),
                     ["ok", "nothing", "ok", "clash at 1 by 0 at 0", "ok", "clash at 1 by 0 at 0"])
        # The number of the rule comes ahead of its place, and the place is that of the pattern.
        other = desk_after("values xo", "rule o strike o at 0", "rule x xo x strike x at 2", "line x xo x o")
        self.exactly(other("strike"), "clash at 2 by 1 at 0")

    def test_refused(self):
        desk = desk_after(*START)
        before = state_of(desk)
        for line, name in (("rule x xo strike x at 1", "BadBook"), ("drop 2", "NoRule"), ("drop 999999999", "NoRule"),
                           ("set 4 x", "NoCell"), ("best 0", "BadNumber"), ("best 5", "BadNumber"), ("best 999999999", "BadNumber"),
                           ("givens -", "BadWord"), ("givens xoxoxoxox", "TooMany"), ("givens xx", "NotStable"),
                           ("clue runs x 31", "BadClue"), ("and runs x 0", "BadClue"), ("or listed " + "x" * 31, "BadClue"),
                           ("clue few x 61", "BadNumber"), ("and modulo x 0 0", "BadNumber"), ("or modulo x 3 3", "BadNumber"),
                           ("clue not few x 61", "BadNumber"), ("clue runs x 30 30 30", "TooMany"), ("clue listed" + " x" * 21, "BadClue"),
                           ("clue runs x" + " 1" * 9, "BadClue"), ("givens xxxxxxxxx", "TooMany")):
            self.exactly(desk(line), "refused " + name, line)
            self.exactly(state_of(desk), before, line)

    def test_refused_signs_searches_and_books(self):
        desk = desk_after("values xo", "clue modulo x 8 0")
        self.exactly([desk("and modulo o 9 0"), desk("or modulo o 9 0"), desk("line xo xo xo"), desk("words")],
                     ["refused TooMany", "refused TooMany", "ok", "1"])
        self.exactly([desk("line" + " xo" * 12), desk("search")], ["ok", "refused TooMany"])
        self.exactly([desk("line" + " xo" * 10), len(desk("search").split(" "))], ["ok", 1024])
        rules = [f"rule {' '.join(cells)} strike {value} at {at}" for cells in
                 [(a, b, c) for a in ("x", "o", "xo") for b in ("x", "o", "xo") for c in ("x", "o", "xo")]
                 for at, cell in enumerate(cells) for value in cell][:41]
        self.exactly(desk.run(*rules), ["ok"] * 40 + ["refused BadBook"])
        self.exactly(len(desk("rules").split(" / ")), 40)

    def test_too_many_stands(self):
        wide = desk_after("values abcd", "rule a abcd abcd abcd ] strike a at 0", "rule b b strike b at 0", "rule b b b strike b at 0")
        self.exactly([wide("trim"), len(wide("rules").split(" / "))], ["refused TooMany", 3])
        every = desk_after("values abcd")
        self.exactly([every("width"), every("best 4")], ["1", "refused TooMany"])

    def test_back(self):
        desk = desk_after("values xo", "rule x xo strike x at 1", "line xo xo xo xo")
        self.exactly(desk("back"), "nothing")
        self.exactly(desk.run("set 0 x", "strike", "strike", "set 3 xo", "set 3 x", "set 3 o", "set 9 x"),
                     ["ok", "left x o xo xo", "left x o xo xo", "ok", "ok", "clash at 3", "refused NoCell"])
        lines = []
        for _ in range(7):
            lines.append([desk("back"), str(desk.line_copy())])
        self.exactly(lines, [["ok", "x o xo xo"], ["ok", "x o xo xo"], ["ok", "x o xo xo"], ["ok", "x xo xo xo"],
                             ["ok", "xo xo xo xo"], ["nothing", "xo xo xo xo"], ["nothing", "xo xo xo xo"]])
        # Further lines behind some that were taken back.
        self.exactly(desk.run("set 0 x", "set 1 x", "back", "set 2 o", "back", "back", "back"),
                     ["ok", "ok", "ok", "ok", "ok", "ok", "nothing"])
        # Other lines than set and strike are not taken back, and do not stand between.
        self.exactly(desk.run("set 0 o", "rule o strike o at 0", "clue never", "trim", "rules", "back", "rules", "should", "drop 1", "back"),
                     ["ok", "ok", "ok", "ok 2", "x xo strike x at 1 / o strike o at 0", "ok",
                      "x xo strike x at 1 / o strike o at 0", "none", "ok", "nothing"])
        # A new line, of the same cells too, begins anew.
        self.exactly(desk.run("set 0 x", "line xo xo xo xo", "back"), ["ok", "ok", "nothing"])
        with self.assertRaises(BadSay):
            desk.run("set 0 x", "line xo xx")
        self.exactly(desk.run("back", "back"), ["ok", "nothing"])
        self.exactly(desk.run("set 0 x", "values xo", "back", "line x", "back"), ["ok", "ok", "no line", "ok", "nothing"])

    def test_trim_is_not_taken_back(self):
        desk = desk_after(*START, "rule x x strike x at 0", "strike")
        self.exactly(desk.run("trim", "back", "rules", "back"), ["ok 2", "ok", "x xo strike x at 1 / xo x strike x at 0", "nothing"])

    def test_values_begin_anew(self):
        desk = desk_after(*START, "strike")
        self.exactly(desk.run("values xo", "rules", "strike", "line xo xo", "words", "back", "should"),
                     ["ok", "none", "no line", "ok", "4", "nothing", "left xo xo"])

    def test_clues_and_books_stay_with_the_line(self):
        desk = desk_after(*START)
        self.exactly(desk.run("strike", "line xo x", "words", "strike"), ["left o x o xo", "ok", "1", "left o x"])

    def test_as_the_functions_tell(self):
        dice = Dice(311)
        for _ in range(25):
            book = dice.book(XO, 1 + dice.below(4), 3)
            clue = Runs(XO, "x", *[1 + dice.below(2) for _ in range(dice.below(3))])
            desk = desk_after("values xo", "clue runs x " + " ".join(map(str, clue.lengths)) if clue.lengths else "values xo")
            clue = clue if clue.lengths else Every(XO)
            self.exactly(desk.run(*[f"rule {rule}" for rule in book]), ["ok"] * len(book))
            for answer, striker in ((desk("complete"), book), (desk("best 2"), Best(clue, 2)), (desk("best 3"), Best(clue, 3))):
                judged = judge_complete(striker, clue)
                wanted = f"complete {len(judged.table)}" if judged else \
                    f"leaves {judged.value} at {judged.place} of {judged.line}"
                self.exactly(answer, wanted)
            self.exactly(desk("trim"), f"ok {len(trimmed(book))}")
            self.exactly(desk("rules"), " / ".join(str(rule) for rule in trimmed(book)) or "none")

    def test_givens(self):
        desk = desk_after("values xo", "rule xo strike o at 0")
        self.exactly([desk("givens x"), desk("givens xxx"), desk("givens o")], ["none", "none", "refused NotStable"])
        self.exactly(desk_after("values xo")("givens xoxoxoxo"), "0 1 2 3 4 5 6 7")
        self.assertTrue(Book(XO, Rule(XO, ["xo"], 0, "o")).is_stable(Line.sure(XO, "x")))


if __name__ == "__main__":
    unittest.main()
