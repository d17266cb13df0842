"""What the tests share: exact comparison, errors with their fields, any values, and slow but plain answers."""

import itertools

from linestrikes.books import Book
from linestrikes.clues import Machine
from linestrikes.errors import BadNumber
from linestrikes.kinds import Every
from linestrikes.lines import Line
from linestrikes.rules import Rule
from linestrikes.trails import trail
from linestrikes.values import Values

XO = Values("xo")
OX = Values("ox")
ABC = Values("abc")
ABCD = Values("abcd")


def nested(depth):
    value = ()
    for _ in range(depth - 1):
        value = (value,)
    return value


def any_values(values=XO):
    """Values of every kind that the document calls any value."""
    rule = Rule(values, [values.full], 0, values.letters[0])
    book = Book(values, rule)
    line = Line.free(values, 3)
    return [
        None, True, False, 0, 1, -1, 2, 5, 17, 10 ** 60 - 1, 1 - 10 ** 60,
        "", "-", ".", " ", "\n", "x\n", "zz", "X", "x" * 20000, "xo" * 10000, "a b", "~", "10", "strike",
        (), [], {}, (None,), [True], [0], ("x",), ["x", "o"], {"x": "o"}, {"x": 1, 2: [3]}, {None: None},
        [[[]]], nested(12), [0] * 20000, ("x",) * 20000,
        values, values.full, values.empty, values.numbered(1), line, rule, book, Every(values),
        Machine(values, [[0] * len(values)], [False]), BadNumber("part"), trail(book, line), line.guess(),
    ]


def exact(one, other):
    """Whether two values are equal and of the same kinds throughout."""
    if type(one) is not type(other):
        return False
    if isinstance(one, (list, tuple)):
        return len(one) == len(other) and all(exact(a, b) for a, b in zip(one, other))
    if isinstance(one, dict):
        return exact(list(one.items()), list(other.items()))
    return one is other or one == other


class Checks:
    """A mixin for test cases."""

    def exactly(self, got, wanted, note=None):
        self.assertTrue(exact(got, wanted), f"{note}: got {show(got)}, wanted {show(wanted)}")

    def raises(self, wanted, ask, *args, **named):
        """Asks, and looks at the class and the fields of the error; returns the error."""
        try:
            got = ask(*args, **named)
        except type(wanted) as error:
            self.assertIs(type(error), type(wanted))
            self.assertTrue(exact(vars(error), vars(wanted)), f"{show(vars(error))}, wanted {show(vars(wanted))}")
            return error
        self.fail(f"{type(wanted).__name__} was not raised for {show(args)}: {show(got)}")
        return None

    def raises_from(self, wanted, cause, ask, *args):
        error = self.raises(wanted, ask, *args)
        self.assertIs(type(error.__cause__), type(cause))
        self.exactly(vars(error.__cause__), vars(cause))


def show(thing):
    return repr(thing)[:200]


def each_text(values, longest, least=0):
    """All words of at most so many letters, in order."""
    for length in range(least, longest + 1):
        for letters in itertools.product(values.letters, repeat=length):
            yield "".join(letters)


def each_line(values, length):
    """All lines of a length, by the numbers of their cells."""
    cells = [cell for cell in values.each_cell() if len(cell)]
    for some in itertools.product(cells, repeat=length):
        yield Line(values, some)


def state_by_table(steps, word, letters):
    state = 0
    for letter in word:
        state = steps[state][letters.index(letter)]
    return state


def least_by_table(letters, steps, told):
    """The least machine in another way than the program: unlike pairs are marked, then states are named by words."""
    seen = [0]
    for state in seen:
        seen.extend([after for after in dict.fromkeys(steps[state]) if after not in seen])
    unlike = {(p, q) for p in seen for q in seen if told[p] != told[q]}
    while True:
        more = {(p, q) for p in seen for q in seen if (p, q) not in unlike
                and any((steps[p][k], steps[q][k]) in unlike for k in range(len(letters)))}
        if not more:
            break
        unlike |= more
    firsts = []
    for state in seen:
        if all((state, other) in unlike for other in firsts):
            firsts.append(state)

    def number(state):
        return [k for k, other in enumerate(firsts) if (state, other) not in unlike][0]

    return (tuple(tuple(number(after) for after in steps[state]) for state in firsts),
            tuple(bool(told[state]) for state in firsts))


def strikes_by_hand(book, cells):
    """All strikes of a book on a list of sets of letters, in order, straight from the document."""
    found = []
    for place in range(len(cells)):
        for number, rule in enumerate(book.rules):
            window = cells[place:place + len(rule.pattern)]
            if len(window) < len(rule.pattern) or (rule.left and place != 0):
                continue
            if rule.right and place + len(rule.pattern) != len(cells):
                continue
            if not all(cell <= set(wanted.letters) for cell, wanted in zip(window, rule.pattern)):
                continue
            if rule.value in window[rule.at]:
                found.append((place, number))
    return found


def struck_by_hand(book, line):
    """The strikes in order, what is left as a list of texts, and the place and the strike of a clash."""
    cells = [set(cell.letters) for cell in line]
    done = []
    while strikes_by_hand(book, cells):
        place, number = strikes_by_hand(book, cells)[0]
        rule = book.rules[number]
        if cells[place + rule.at] == {rule.value}:
            return done, None, (place + rule.at, place, number)
        cells[place + rule.at] = cells[place + rule.at] - {rule.value}
        done.append((place, number))
    return done, texts(line.alphabet, cells), None


def rounds_by_hand(book, line):
    """The lines behind the rounds as lists of texts, and the place and the strike of a clash."""
    cells = [set(cell.letters) for cell in line]
    lines = []
    while strikes_by_hand(book, cells):
        found = strikes_by_hand(book, cells)
        after = [set(cell) for cell in cells]
        for place, number in found:
            after[place + book.rules[number].at].discard(book.rules[number].value)
        for at, cell in enumerate(after):
            if not cell:
                cause = [(p, k) for p, k in found if p + book.rules[k].at == at][0]
                return lines, (at, *cause)
        cells = after
        lines.append(texts(line.alphabet, cells))
    return lines, None


def texts(values, cells):
    return ["".join(letter for letter in values.letters if letter in cell) for cell in cells]


class Dice:
    """Numbers that look mixed and are the same in each run."""

    def __init__(self, seed):
        self.state = seed

    def below(self, many):
        self.state = (self.state * 6364136223846793005 + 1442695040888963407) & (2 ** 64 - 1)
        return (self.state >> 33) % many

    def cell(self, values):
        return values.numbered(1 + self.below(2 ** len(values) - 1))

    def rule(self, values, longest=4):
        pattern = [self.cell(values) for _ in range(1 + self.below(longest))]
        at = self.below(len(pattern))
        letters = pattern[at].letters
        return Rule(values, pattern, at, letters[self.below(len(letters))],
                    left=self.below(4) == 0, right=self.below(4) == 0)

    def book(self, values, many, longest=4):
        rules = []
        for _ in range(many):
            rule = self.rule(values, longest)
            if rule not in rules:
                rules.append(rule)
        return Book(values, *rules)

    def line(self, values, many):
        return Line(values, [self.cell(values) for _ in range(many)])

    def machine(self, values, most):
        many = 1 + self.below(most)
        steps = [[self.below(many) for _ in values.letters] for _ in range(many)]
        return Machine(values, steps, [self.below(2) == 0 for _ in range(many)]), steps


ODD_ONES = [None, True, False, 0, 1, -1, 2, "x", "", (), [], (0,), ((),), {}, 10 ** 59, "0", XO, XO.full]


def mutants(thing):
    """Values like this one, each with one change somewhere in it."""
    yield from [odd for odd in ODD_ONES if not exact(odd, thing)]
    if type(thing) is int:
        yield from [thing + 1, thing - 1, str(thing)]
    if isinstance(thing, str):
        yield from [thing + "x", thing[1:], "o" + thing, thing[::-1], thing.upper(), list(thing)]
    if isinstance(thing, (tuple, list)):
        kind = type(thing)
        yield list(thing) if kind is tuple else tuple(thing)
        yield thing[::-1]
        yield thing + kind([0])
        for k, item in enumerate(thing):
            yield thing[:k] + thing[k + 1:]
            yield thing[:k] + kind([item]) + thing[k:]
            yield thing[:k] + thing[k + 1:k + 2] + kind([item]) + thing[k + 2:]
            for other in mutants(item):
                yield thing[:k] + kind([other]) + thing[k + 1:]
