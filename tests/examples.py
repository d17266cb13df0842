"""Runs the examples of the document, value by value, in one space of names."""

from linestrikes import errors
from tests.support import exact


def each_example(text):
    """Pairs of what is run, and the lines that tell the result."""
    source = None
    wanted = []
    for line in text.strip().split("\n"):
        if line.startswith(">>> "):
            if source is not None:
                yield source, wanted
            source = line[4:]
            wanted = []
        else:
            wanted.append(line)
    yield source, wanted


def run_examples(text, names):
    """The examples that do not give what they tell, each with what it gave."""
    wrong = []
    for source, wanted in each_example(text):
        got = outcome(source, names)
        if not is_as_told(got, wanted):
            wrong.append((source, wanted, got))
    return wrong


def outcome(source, names):
    try:
        code = compile(source, "example", "eval")
    except SyntaxError:
        code = compile(source, "example", "exec")
    try:
        return eval(code, names), None
    except errors.LineError as error:
        return None, error


def is_as_told(got, wanted):
    value, error = got
    if not wanted:
        return error is None and value is None
    if not wanted[0].startswith("raises "):
        return error is None and exact(value, eval("\n".join(wanted)))
    told, _, cause = wanted[0][len("raises "):].partition(" from ")
    if not is_error(error, told):
        return False
    return is_error(error.__cause__, cause) if cause else True


def is_error(error, told):
    wanted = eval(told, dict(vars(errors)))
    return type(error) is type(wanted) and exact(vars(error), vars(wanted))


VALUES = """
>>> from linestrikes.values import Values
>>> values = Values("xo")
>>> [values.cell("ox").letters, values.cell("o").number, str(values.empty), [cell.number for cell in values.each_cell()]]
['xo', 2, '.', [0, 1, 2, 3]]
>>> [str(values.full - values.cell("x")), str(~values.empty), "x" in values.full, values.cell("x").within(values.full)]
['o', 'xo', True, True]
>>> [letter for letter in values.cell("ox")]
['x', 'o']
>>> values.cell("xx")
raises BadCell('xx')
"""

LINES = """
>>> from linestrikes.lines import Line
>>> line = Line(values, ["xo", "x", "xo", "xo"])
>>> [len(line), line.many, line.open_places, line.solution, "oxxo" in line, str(line)]
[4, 8, (0, 2, 3), None, True, 'xo x xo xo']
>>> [str(cell) for cell in line]
['xo', 'x', 'xo', 'xo']
>>> other = line.copy()
>>> other[0] = "o"
>>> [str(other), list(other.words())[:2], str(-other), other.within(line)]
['o x xo xo', ['oxxx', 'oxxo'], 'xo xo x o', True]
>>> other[1] = "o"
raises Clash(1)
>>> other &= Line.sure(values, "oxox")
>>> [other.solution, str(other | Line.sure(values, "xxxx"))]
['oxox', 'xo x xo x']
>>> line & Line.free(values, 3)
raises Unlike('length')
"""

KINDS = """
>>> from linestrikes.clues import Machine
>>> from linestrikes.kinds import Ends, Modulo, Neighbours, Runs
>>> two = Runs(values, "x", 2)
>>> [two("oxxo"), "xox" in two, two.steps, two.told]
[True, False, ((1, 0), (2, 3), (3, 2), (3, 3)), (False, False, True, False)]
>>> [two.first(), two.count(4), list(two.words(3)), two.marks("oxxo")]
['xx', 3, ['xxo', 'oxx'], 2]
>>> apart = Neighbours(values, "xo", "ox", "oo")
>>> [apart("xoox"), apart("oxx"), (apart & Modulo(values, "x", 2)).count(3), (~apart).first(), bool(apart - apart)]
[True, False, 2, 'xx', False]
>>> [-two == two, two.within(~apart), apart == Machine(values, [[1, 0], [2, 0], [2, 2]], [True, True, False])]
[True, True, True]
>>> Machine(values, [[0, 0], [1, 1]], [True, False]).steps
((0, 0),)
>>> two("oxy")
raises BadWord(2)
>>> Runs(values, "x", 2, 0)
raises BadClue(1)
"""

RULES = """
>>> from linestrikes.rules import Rule
>>> behind = Rule(values, ["x", "xo"], 1, "x")
>>> [str(behind), str(-behind), len(behind), str(Rule(values, ["xo"], 0, "x", left=True))]
['x xo strike x at 1', 'xo x strike x at 0', 2, '[ xo strike x at 0']
>>> [behind.fits(line, 0), behind.fits(line, 1), behind.hits(line, 1), behind.fits(line, 3), list(behind.places(line))]
[False, True, True, False, [1]]
>>> Rule(values, ["x", "o"], 1, "x")
raises BadRule('value')
>>> Rule.read(values, "x xo strike o at 0")
raises BadText(0, 5)
>>> Rule.read(values, "x ox strike x at 1")
raises BadText(0, 1)
"""

BOOKS = """
>>> from linestrikes.books import Book
>>> pair = Book(values, behind, -behind)
>>> [list(pair.strikes(line)), str(pair(line)), pair.is_stable(line), pair.width, str(line)]
[[(0, 1), (1, 0)], 'o x o xo', False, 2, 'xo x xo xo']
>>> [str(after) for after in pair.rounds(line)]
['o x o xo']
>>> pair(Line(values, ["xo", "x", "x"]))
raises Clash(2) from Struck(1, 0)
>>> [str(one) for one in pair.rounds(Line(values, ["x", "xo", "xo"]))]
['x o xo']
>>> same = line
>>> line &= pair
>>> [str(same), pair - behind == Book(values, -behind), behind in pair, -pair == pair]
['o x o xo', True, True, False]
"""

TRAILS = """
>>> from linestrikes.trails import trail
>>> bad = Line(values, ["xo", "x", "x"])
>>> [trail(pair, bad).done, trail(pair, bad).left, trail(pair, bad).clash]
[((0, 1), (1, 0)), None, 2]
>>> open_one = Line(values, ["xo", "x", "xo", "xo"])
>>> trail(pair, open_one).left == line
True
"""

SECTIONS = [VALUES, LINES, KINDS, RULES, BOOKS, TRAILS]
