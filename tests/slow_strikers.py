"""Slow but plain answers about strikers of both kinds: books by their rules, best strikers by all sound rules.

Each is in the place of a striker: reach, is_stable of a row of cells, and what strikes in windows of a walk.
"""

import itertools

from linestrikes.rules import Rule
from tests.slow import Inner, cells_of, has_sound_rows, has_told, is_int, is_states, lost_by_hand, sets_by_hand, strikes_last
from tests.support import each_line, strikes_by_hand, texts


def all_rules(values, width):
    """All rules of at most so many cells."""
    cells = [cell for cell in values.each_cell() if len(cell)]
    for many in range(1, width + 1):
        for pattern in itertools.product(cells, repeat=many):
            for at, cell in enumerate(pattern):
                for value in cell.letters:
                    for left, right in itertools.product((False, True), repeat=2):
                        yield Rule(values, pattern, at, value, left=left, right=right)


def factors_by_hand(clue, cells, left=False, right=False):
    """The texts of the cells with the values of the factors within some cells, by all words and states."""
    lost = lost_by_hand(clue)
    found = [set() for _ in cells]
    for word in itertools.product(*[cell.letters for cell in cells]):
        ends = [end_of(clue, state, word) for state in ([0] if left else range(len(clue)))]
        if any(clue.told[end] if right else end not in lost for end in ends):
            for at, letter in enumerate(word):
                found[at].add(letter)
    return texts(clue.alphabet, found)


def end_of(clue, state, word):
    for letter in word:
        state = clue.steps[state][clue.alphabet.letters.index(letter)]
    return state


class SlowBook:
    """A book, by its rules."""

    def __init__(self, book):
        self.book = book
        self.alphabet = book.alphabet
        self.reach = max([len(rule.pattern) for rule in book.rules] + [1]) - 1

    def is_stable(self, line):
        return not strikes_by_hand(self.book, cells_of(line))

    def is_struck(self, line):
        """Whether something strikes in the windows that ended so far, rules of the right end aside."""
        return bool(strikes_by_hand(Inner(self.book), cells_of(line)))

    def strikes_last(self, is_start, tail, number, at_end):
        """Whether something strikes in a window that ends with a cell behind a tail."""
        return strikes_last(self.book, is_start, tail, number, at_end)


class SlowBest:
    """A best striker, by all sound rules of at most so many cells; the windows of a walk by all factors."""

    def __init__(self, clue, width):
        self.clue = clue
        self.alphabet = clue.alphabet
        self.width = width
        self.reach = width - 1
        self.rules = [rule for rule in all_rules(clue.alphabet, width) if has_sound_rows(rule, clue)]
        self.known = {}

    def is_stable(self, line):
        key = tuple(cell.number for cell in line)
        if key not in self.known:
            self.known[key] = not strikes_by_hand(self, cells_of(line))
        return self.known[key]

    def strikes(self, cells):
        """All strikes on a list of sets of letters, in order: pairs of a place and a value."""
        letters = self.alphabet.letters
        found = {(place + self.rules[k].at, letters.index(self.rules[k].value))
                 for place, k in strikes_by_hand(self, cells)}
        return [(place, letters[k]) for place, k in sorted(found)]

    def has_factors(self, window, left, right):
        key = (tuple(cell.number for cell in window), left, right)
        if key not in self.known:
            self.known[key] = factors_by_hand(self.clue, window, left, right) == [cell.letters for cell in window]
        return self.known[key]

    def is_struck(self, line):
        return not all(self.has_factors(line[at:at + self.width], at == 0, False)
                       for at in range(len(line) - self.width + 1))

    def strikes_last(self, is_start, tail, number, at_end):
        cells = [self.alphabet.numbered(one) for one in (*tail, number)]
        if len(cells) < self.width and not at_end:
            return False
        is_first = is_start and len(cells) <= self.width
        return not self.has_factors(cells[-self.width:], is_first, at_end)

    def followed(self, line):
        """The strikes in order, what is left as a list of texts, and the place and the value of a clash."""
        cells = cells_of(line)
        done = []
        found = self.strikes(cells)
        while found:
            place, value = found[0]
            if cells[place] == {value}:
                return done, None, (place, value)
            cells[place] = cells[place] - {value}
            done.append((place, value))
            found = self.strikes(cells)
        return done, texts(self.alphabet, cells), None

    def rounds(self, line):
        """The lines behind the rounds as lists of texts, and the place and the value of a clash."""
        cells = cells_of(line)
        lines = []
        found = self.strikes(cells)
        while found:
            after = [cell - {value for at, value in found if at == place} for place, cell in enumerate(cells)]
            for place, cell in enumerate(after):
                if not cell:
                    return lines, [strike for strike in found if strike[0] == place][0]
            cells = after
            lines.append(texts(self.alphabet, cells))
            found = self.strikes(cells)
        return lines, None


def tail_by_hand(reach, line):
    numbers = tuple(cell.number for cell in line)
    return len(numbers) <= reach, numbers[len(numbers) - reach:] if len(numbers) > reach else numbers


def stand_of(striker, clue, line, mark):
    may_end = len(line) > 0 and striker.is_stable(line)
    states = sets_by_hand(clue, line, *(mark or ()))[-1]
    return (*tail_by_hand(striker.reach, line), may_end, states, mark is not None)


def double_stand_of(one, other, line):
    may_end = len(line) > 0 and one.is_stable(line)
    other_may_end = len(line) > 0 and other.is_stable(line)
    return (*tail_by_hand(max(one.reach, other.reach), line), may_end, other_may_end, other.is_struck(line))


def rounds_of(first, longer_ones):
    """The lists of the new stands of each round, of pairs of a stand and the row that comes to it first."""
    seen = {first[0]: True}
    rounds = [[first]]
    while rounds[-1]:
        fresh = []
        for _, row in rounds[-1]:
            for stand, longer in longer_ones(row):
                if stand not in seen:
                    seen[stand] = True
                    fresh.append((stand, longer))
        rounds.append(fresh)
    return [[stand for stand, _ in some] for some in rounds]


def rounds_of_striker(striker, clue):
    cells = [cell for cell in striker.alphabet.each_cell() if len(cell)]

    def longer_ones(row):
        line, mark = row
        for cell in cells:
            longer = [*line, cell]
            if not striker.is_struck(longer):
                for other in [mark] if mark else [None, *((len(line), value) for value in cell.letters)]:
                    yield stand_of(striker, clue, longer, other), (longer, other)

    return rounds_of((stand_of(striker, clue, [], None), ([], None)), longer_ones)


def rounds_of_two(one, other):
    cells = [cell for cell in one.alphabet.each_cell() if len(cell)]

    def longer_ones(line):
        for cell in cells:
            if not one.is_struck([*line, cell]):
                yield double_stand_of(one, other, [*line, cell]), [*line, cell]

    return rounds_of((double_stand_of(one, other, []), []), longer_ones)


def is_tail(reach, full_number, is_start, tail):
    if type(tail) is not tuple or len(tail) > reach or (not is_start and len(tail) != reach):
        return False
    return all(is_int(number) and 1 <= number <= full_number for number in tail)


def kept_tail(reach, is_start, tail, number):
    longer = (*tail, number)
    return is_start and len(longer) <= reach, longer[len(longer) - reach:] if len(longer) > reach else longer


def complete_told(striker, clue, thing):
    """What shows_complete must answer."""
    full = striker.alphabet.full.number
    if type(thing) is not tuple:
        return False
    for stand in thing:
        if type(stand) is not tuple or len(stand) != 5 or not all(type(stand[k]) is bool for k in (0, 2, 4)):
            return False
        if not is_tail(striker.reach, full, stand[0], stand[1]) or not is_states(stand[3], clue):
            return False
        if stand[4] and stand[2] and not has_told(clue, stand[3]):
            return False
    if len(set(thing)) < len(thing) or (True, (), False, (0,), False) not in thing:
        return False
    return all(after in thing for stand in thing for after in stands_after(striker, clue, stand))


def stands_after(striker, clue, stand):
    is_start, tail, _, states, is_marked = stand
    for cell in striker.alphabet.each_cell():
        if len(cell) == 0 or striker.strikes_last(is_start, tail, cell.number, False):
            continue
        may_end = not striker.strikes_last(is_start, tail, cell.number, True)
        for some, marked in [(cell.letters, is_marked)] + ([] if is_marked else [(one, True) for one in cell.letters]):
            indexes = [clue.alphabet.letters.index(letter) for letter in some]
            after = tuple(sorted({clue.steps[state][k] for state in states for k in indexes}))
            yield (*kept_tail(striker.reach, is_start, tail, cell.number), may_end, after, marked)


def stronger_told(one, other, thing):
    """What shows_stronger must answer."""
    reach = max(one.reach, other.reach)
    full = one.alphabet.full.number
    if type(thing) is not tuple:
        return False
    for stand in thing:
        if type(stand) is not tuple or len(stand) != 5 or not all(type(stand[k]) is bool for k in (0, 2, 3, 4)):
            return False
        if not is_tail(reach, full, stand[0], stand[1]) or (stand[2] and not stand[3]):
            return False
    if len(set(thing)) < len(thing) or (True, (), False, False, False) not in thing:
        return False
    return all(after in thing for stand in thing for after in double_stands_after(one, other, stand))


def double_stands_after(one, other, stand):
    reach = max(one.reach, other.reach)
    is_start, tail, _, _, was_struck = stand
    for number in range(1, one.alphabet.full.number + 1):
        if not one.strikes_last(is_start, tail, number, False):
            is_struck = was_struck or other.strikes_last(is_start, tail, number, False)
            may_end = not one.strikes_last(is_start, tail, number, True)
            other_may_end = not is_struck and not other.strikes_last(is_start, tail, number, True)
            yield (*kept_tail(reach, is_start, tail, number), may_end, other_may_end, is_struck)


def parted_by_two(one, other, longest):
    """The least line of at most so many cells that is stable for one and not for other."""
    for length in range(1, longest + 1):
        for line in each_line(one.alphabet, length):
            if one.is_stable(line) and not other.is_stable(line):
                return line
    return None
