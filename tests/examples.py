"""Runs the examples of the document, value by value, in one space of names."""

from linestrikes import errors
from tests.support import exact


def each_example(text):
    """Pairs of what is run, and the lines that tell the result."""
    source = None
    wanted = []
    for line in text.strip().split("\n"):
        if line.startswith(">>> "):
            if source is not None:
                yield source, wanted
            source = line[4:]
            wanted = []
        else:
            wanted.append(line)
    yield source, wanted


def run_examples(text, names):
    """The examples that do not give what they tell, each with what it gave."""
    wrong = []
    for source, wanted in each_example(text):
        got = outcome(source, names)
        if not is_as_told(got, wanted):
            wrong.append((source, wanted, got))
    return wrong


def outcome(source, names):
    try:
        code = compile(source, "example", "eval")
    except SyntaxError:
        code = compile(source, "example", "exec")
    try:
        return eval(code, names), None
    except errors.LineError as error:
        return None, error


def is_as_told(got, wanted):
    value, error = got
    if not wanted:
        return error is None and value is None
    if not wanted[0].startswith("raises "):
        return error is None and exact(value, eval("\n".join(wanted)))
    told, _, cause = wanted[0][len("raises "):].partition(" from ")
    if not is_error(error, told):
        return False
    return is_error(error.__cause__, cause) if cause else True


def is_error(error, told):
    wanted = eval(told, dict(vars(errors)))
    return type(error) is type(wanted) and exact(vars(error), vars(wanted))


VALUES = """
>>> from linestrikes.values import Values
>>> values = Values("xo")
>>> [values.cell("ox").letters, values.cell("o").number, str(values.empty), [cell.number for cell in values.each_cell()]]
['xo', 2, '.', [0, 1, 2, 3]]
>>> [str(values.full - values.cell("x")), str(~values.empty), "x" in values.full, values.cell("x").within(values.full)]
['o', 'xo', True, True]
>>> [letter for letter in values.cell("ox")]
['x', 'o']
>>> values.cell("xx")
raises BadCell('xx')
"""

LINES = """
>>> from linestrikes.lines import Line
>>> line = Line(values, ["xo", "x", "xo", "xo"])
>>> [len(line), line.many, line.open_places, line.solution, "oxxo" in line, str(line)]
[4, 8, (0, 2, 3), None, True, 'xo x xo xo']
>>> [str(cell) for cell in line]
['xo', 'x', 'xo', 'xo']
>>> other = line.copy()
>>> other[0] = "o"
>>> [str(other), list(other.words())[:2], str(-other), other.within(line)]
['o x xo xo', ['oxxx', 'oxxo'], 'xo xo x o', True]
>>> other[1] = "o"
raises Clash(1)
>>> other &= Line.sure(values, "oxox")
>>> [other.solution, str(other | Line.sure(values, "xxxx"))]
['oxox', 'xo x xo x']
>>> line & Line.free(values, 3)
raises Unlike('length')
"""

KINDS = """
>>> from linestrikes.clues import Machine
>>> from linestrikes.kinds import Ends, Modulo, Neighbours, Runs
>>> two = Runs(values, "x", 2)
>>> [two("oxxo"), "xox" in two, two.steps, two.told]
[True, False, ((1, 0), (2, 3), (3, 2), (3, 3)), (False, False, True, False)]
>>> [two.first(), two.count(4), list(two.words(3)), two.marks("oxxo")]
['xx', 3, ['xxo', 'oxx'], 2]
>>> apart = Neighbours(values, "xo", "ox", "oo")
>>> [apart("xoox"), apart("oxx"), (apart & Modulo(values, "x", 2)).count(3), (~apart).first(), bool(apart - apart)]
[True, False, 2, 'xx', False]
>>> [-two == two, two.within(~apart), apart == Machine(values, [[1, 0], [2, 0], [2, 2]], [True, True, False])]
[True, True, True]
>>> Machine(values, [[0, 0], [1, 1]], [True, False]).steps
((0, 0),)
>>> two("oxy")
raises BadWord(2)
>>> Runs(values, "x", 2, 0)
raises BadClue(1)
"""

RULES = """
>>> from linestrikes.rules import Rule
>>> behind = Rule(values, ["x", "xo"], 1, "x")
>>> [str(behind), str(-behind), len(behind), str(Rule(values, ["xo"], 0, "x", left=True))]
['x xo strike x at 1', 'xo x strike x at 0', 2, '[ xo strike x at 0']
>>> [behind.fits(line, 0), behind.fits(line, 1), behind.hits(line, 1), behind.fits(line, 3), list(behind.places(line))]
[False, True, True, False, [1]]
>>> Rule(values, ["x", "o"], 1, "x")
raises BadRule('value')
>>> Rule.read(values, "x xo strike o at 0")
raises BadText(0, 5)
>>> Rule.read(values, "x ox strike x at 1")
raises BadText(0, 1)
"""

BOOKS = """
>>> from linestrikes.books import Book
>>> pair = Book(values, behind, -behind)
>>> [list(pair.strikes(line)), str(pair(line)), pair.is_stable(line), pair.width, str(line)]
[[(0, 1), (1, 0)], 'o x o xo', False, 2, 'xo x xo xo']
>>> [str(after) for after in pair.rounds(line)]
['o x o xo']
>>> pair(Line(values, ["xo", "x", "x"]))
raises Clash(2) from Struck(1, 0)
>>> [str(one) for one in pair.rounds(Line(values, ["x", "xo", "xo"]))]
['x o xo']
>>> same = line
>>> line &= pair
>>> [str(same), pair - behind == Book(values, -behind), behind in pair, -pair == pair]
['o x o xo', True, True, False]
"""

TRAILS = """
>>> from linestrikes.check_trails import shows_clash, shows_left
>>> from linestrikes.trails import trail
>>> bad = Line(values, ["xo", "x", "x"])
>>> [trail(pair, bad).done, trail(pair, bad).left, trail(pair, bad).clash, shows_clash(pair, bad, [(1, 0)])]
[((0, 1), (1, 0)), None, 2, True]
>>> open_one = Line(values, ["xo", "x", "xo", "xo"])
>>> [shows_left(pair, open_one, ((1, 0), (0, 1)), line), shows_left(pair, open_one, ((1, 0),), line)]
[True, False]
"""

STABLE = """
>>> from linestrikes.stable import join, stable_lines
>>> some = list(stable_lines(pair, Line(values, ["xo", "xo"])))
>>> [str(one) for one in some]
['x o', 'o x', 'o o', 'o xo', 'xo o', 'xo xo']
>>> str(join(some[:2]))
'xo xo'
"""

SUPPORTS = """
>>> from linestrikes.supports import barring, count_words, judged_left, left_by, right_words
>>> from linestrikes.check_supports import shows_barred, shows_left_by
>>> line = Line(values, ["xo", "x", "xo", "xo"])
>>> [count_words(apart, line), list(right_words(apart, line)), str(left_by(apart, line))]
[2, ['oxox', 'oxoo'], 'o x o xo']
>>> [barring(apart, line), barring(apart, line, 2, "x")]
[None, ((0,), (0, 1), (1, 2), (2,), (2,))]
>>> shows_barred(apart, line, ((0,), (0, 1), (0, 1, 2), (2,), (2,)), 2, "x")
False
>>> found = judged_left(apart, line)
>>> [len(found.shown), found.barred[0], shows_left_by(apart, line, found.line, found.shown, found.barred)]
[5, ((0,), (1,), (2,), (2,), (2,)), True]
>>> none = judged_left(two, Line(values, ["x"]))
>>> [bool(none), none.line, none.shown, none.barred]
[False, None, (), (((0,), (1,)),)]
"""

SOUND = """
>>> from linestrikes.sound import is_sound_rule, judge_sound
>>> [apart.steps, apart.told]
[((1, 0), (2, 0), (2, 2)), (True, True, False)]
>>> judge_sound(pair, apart).paper()
('sound', (2,), (((0, 1, 2), (1, 2), (2,)), ((0, 1, 2), (1, 2), (2,))))
>>> judge_sound(Book(values, Rule(values, ["xo"], 0, "x")), apart).paper()
('unsound', 'x', 0, 0)
"""

COMPLETE = """
>>> from linestrikes.complete import judge_complete, judge_exact
>>> half = Book(values, Rule(values, ["x", "xo"], 1, "x"))
>>> [judge_exact(pair, apart).kind, bool(judge_complete(half, apart)), judge_complete(half, apart).paper()]
['exact', False, ('incomplete', (3, 1), 0, 'x', ((0,), (1,), (2,)))]
"""

COMPARE = """
>>> from linestrikes.compare import alike, judge_stronger, keepers, needless, parting, trimmed
>>> [alike(pair, half), str(parting(pair, half)), judge_stronger(pair, half).kind, judge_stronger(half, pair).paper()]
[False, 'xo x', 'stronger', ('parted', (3, 1))]
>>> more = pair + Rule(values, ["x", "x"], 1, "x")
>>> [needless(more), trimmed(more) == pair, [str(one) for one in keepers(pair)]]
[(2,), True, ['x xo', 'xo x']]
"""

BEST = """
>>> from linestrikes.best import Best, factors
>>> [str(cell) for cell in factors(apart, ["x", "xo", "xo"])]
['x', 'o', 'xo']
>>> best = Best(apart, 2)
>>> [best.lets(pair[0]), best.lets(Rule(values, ["o", "xo"], 1, "x")), list(best.strikes(line)), str(best(line))]
[True, False, [(0, 'x'), (2, 'x')], 'o x o xo']
>>> list(Best(apart, 1).strikes(line))
[]
"""

WIDTHS = """
>>> from linestrikes.widths import least_width, verdicts
>>> even = Modulo(values, "x", 2)
>>> [least_width(apart), least_width(even, 3), [str(one.line) for one in verdicts(even, 2)]]
[2, None, ['x o', 'x x x']]
"""

GIVENS = """
>>> from linestrikes.check_givens import shows_givens
>>> from linestrikes.givens import asked, givens
>>> found = givens(pair, "oxo")
>>> [found.chosen, [str(one) for one in found.lines], str(asked(values, "oxo", found.chosen))]
[(1,), ['xo xo xo'], 'xo x xo']
>>> [givens(pair, "ooo").chosen, shows_givens(pair, "oxo", (1,), [Line(values, ["xo", "x", "xo"])])]
[(0, 1, 2), False]
>>> givens(pair, "xx")
raises NotStable()
"""

GUESS = """
>>> from linestrikes.guess import Search, probed
>>> search = Search(pair, line)
>>> [list(search.words()), search.taken_back, str(probed(pair, line))]
[['oxox', 'oxoo'], 0, 'o x o xo']
"""

TEXTS = r"""
>>> from linestrikes.kinds import Ends
>>> from linestrikes.reader import read, read_book, read_clue, read_line
>>> from linestrikes.texts import write_book, write_clue, write_line, write_trail
>>> write_line(line)
'line xo\ncells xo x xo xo'
>>> write_book(pair).split("\n")
['book xo', 'rule x xo strike x at 1', 'rule xo x strike x at 0']
>>> write_clue(apart).split("\n")
['clue xo', 'machine', 'yes 1 0', 'yes 2 0', 'no 2 2']
>>> read_clue("clue xo\nneighbours xo ox oo\nnot ends x x") == apart - Ends(values, "x", "x")
True
>>> write_trail(values, ((0, 1), (1, 0)), read_line("line xo\ncells o x o xo")).split("\n")
['trail xo', 'strike 0 1', 'strike 1 0', 'left o x o xo']
>>> read_line("line xo\ncells xo ox")
raises BadText(1, 2)
>>> read_book("book xo\nrule x xo strike x")
raises BadText(1, 5)
>>> read("clue xo")
raises BadText(1, 0)
"""

DESK = """
>>> from linestrikes.desk import Desk
>>> desk = Desk()
>>> desk.run("strike", "values xo", "clue neighbours xo ox oo", "rule x xo strike x at 1", "line xo x xo", "strike", "should", "back", "set 0 x", "strike")
['no values', 'ok', 'ok', 'ok', 'ok', 'left xo x o', 'left o x o', 'ok', 'ok', 'clash at 1 by 0 at 0']
>>> desk.run("complete", "best 2", "rule xo x strike x at 0", "sound", "givens oxo", "width")
['leaves x at 0 of xo x', 'complete 24', 'ok', 'sound', '1', '2']
>>> desk("set 0  x")
raises BadSay(2)
"""

SECTIONS = [VALUES, LINES, KINDS, RULES, BOOKS, TRAILS, STABLE, SUPPORTS, SOUND, COMPLETE, COMPARE, BEST, WIDTHS, GIVENS,
            GUESS, TEXTS, DESK]
