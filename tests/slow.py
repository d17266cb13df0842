"""Slow but plain answers, straight from the document, that the judging functions are compared with."""

from linestrikes.lines import Line
from tests.support import each_line, each_text, exact, strikes_by_hand


def cells_of(line):
    return [set(cell.letters) for cell in line]


def is_stable_by_hand(book, line):
    return not strikes_by_hand(book, cells_of(line))


def right_words_by_hand(clue, line):
    """The right words within a line, in order."""
    words = [""]
    for cell in line:
        words = [word + letter for word in words for letter in cell.letters]
    return [word for word in words if clue(word)]


def marks_by_hand(line):
    """Pairs of a place and a value, cell by cell."""
    return [(place, value) for place, cell in enumerate(line) for value in cell.letters]


def sets_by_hand(clue, line, place=None, value=None):
    """The ascending tuples of states along a line, with a mark or without."""
    sets = [(0,)]
    for at, cell in enumerate(line):
        letters = value if at == place else cell.letters
        indexes = [clue.alphabet.letters.index(letter) for letter in letters]
        sets.append(tuple(sorted({clue.steps[state][k] for state in sets[-1] for k in indexes})))
    return tuple(sets)


def unsound_by_hand(book, clue, longest):
    """The least right word of at most so many letters that is spoiled, the place and the number; None without one."""
    for word in each_text(book.alphabet, longest, 1):
        if clue(word):
            found = strikes_by_hand(book, [{letter} for letter in word])
            if found:
                return (word, *found[0])
    return None


def lost_by_hand(clue):
    """The ascending tuple of the states from which no told state is reached."""
    living = {state for state, is_told in enumerate(clue.told) if is_told}
    while True:
        more = {state for state, row in enumerate(clue.steps) if set(row) & living} | living
        if more == living:
            return tuple(state for state in range(len(clue)) if state not in living)
        living = more


def rows_by_hand(rule, clue):
    """The rows of a rule for a clue."""
    rows = [(0,) if rule.left else tuple(range(len(clue)))]
    for at, cell in enumerate(rule.pattern):
        letters = rule.value if at == rule.at else cell.letters
        after = {clue.steps[state][clue.alphabet.letters.index(letter)] for state in rows[-1] for letter in letters}
        rows.append(tuple(sorted(after)))
    return tuple(rows)


def has_sound_rows(rule, clue):
    last = rows_by_hand(rule, clue)[-1]
    if rule.right:
        return not any(clue.told[state] for state in last)
    return all(state in lost_by_hand(clue) for state in last)


def incomplete_by_hand(book, clue, longest):
    """The least stable line of at most so many cells with a value that no right word has; with its place and value."""
    for length in range(1, longest + 1):
        for line in each_line(book.alphabet, length):
            if not is_stable_by_hand(book, line):
                continue
            words = right_words_by_hand(clue, line)
            for place, value in marks_by_hand(line):
                if not any(word[place] == value for word in words):
                    return line, place, value
    return None


class Inner:
    """A book without its rules of the right end."""

    def __init__(self, book):
        self.rules = [rule for rule in book.rules if not rule.right]


def stand_by_hand(book, clue, line, mark):
    """The stand behind a row of cells that is stable so far, with a mark or None."""
    reach = max([len(rule.pattern) for rule in book.rules] + [1]) - 1
    numbers = tuple(cell.number for cell in line)
    tail = numbers[len(numbers) - reach:] if len(numbers) > reach else numbers
    may_end = len(numbers) > 0 and not strikes_by_hand(book, cells_of(line))
    states = sets_by_hand(clue, line, *(mark or ()))[-1]
    return len(numbers) <= reach, tail, may_end, states, mark is not None


def rounds_of_stands(book, clue, most_rounds=60):
    """The lists of the new stands of each round, the first stand first."""
    cells = [cell for cell in book.alphabet.each_cell() if len(cell)]
    first = stand_by_hand(book, clue, [], None)
    seen = {first: ([], None)}
    rounds = [[first]]
    while rounds[-1] and len(rounds) < most_rounds:
        fresh = {}
        for stand in rounds[-1]:
            line, mark = seen[stand]
            for cell in cells:
                longer = [*line, cell]
                if strikes_by_hand(Inner(book), cells_of(longer)):
                    continue
                marks = [mark] if mark else [None, *((len(line), value) for value in cell.letters)]
                for other in marks:
                    after = stand_by_hand(book, clue, longer, other)
                    if after not in seen:
                        fresh.setdefault(after, (longer, other))
        seen.update(fresh)
        rounds.append(list(fresh))
    return rounds


def stand_fails(clue, stand):
    return stand[4] and stand[2] and not any(clue.told[state] for state in stand[3])


def double_stand_by_hand(one, other, line):
    reach = max([len(rule.pattern) for rule in (*one.rules, *other.rules)] + [1]) - 1
    numbers = tuple(cell.number for cell in line)
    tail = numbers[len(numbers) - reach:] if len(numbers) > reach else numbers
    may_end = len(numbers) > 0 and not strikes_by_hand(one, cells_of(line))
    other_may_end = len(numbers) > 0 and not strikes_by_hand(other, cells_of(line))
    return len(numbers) <= reach, tail, may_end, other_may_end, bool(strikes_by_hand(Inner(other), cells_of(line)))


def rounds_of_double_stands(one, other, most_rounds=60):
    cells = [cell for cell in one.alphabet.each_cell() if len(cell)]
    first = double_stand_by_hand(one, other, [])
    seen = {first: []}
    rounds = [[first]]
    while rounds[-1] and len(rounds) < most_rounds:
        fresh = {}
        for stand in rounds[-1]:
            for cell in cells:
                longer = [*seen[stand], cell]
                if not strikes_by_hand(Inner(one), cells_of(longer)):
                    after = double_stand_by_hand(one, other, longer)
                    if after not in seen:
                        fresh.setdefault(after, longer)
        seen.update(fresh)
        rounds.append(list(fresh))
    return rounds


def parted_by_hand(one, other, longest):
    """The least line of at most so many cells that is stable for one and not for other."""
    for length in range(1, longest + 1):
        for line in each_line(one.alphabet, length):
            if is_stable_by_hand(one, line) and not is_stable_by_hand(other, line):
                return line
    return None


def is_int(thing):
    return type(thing) is int


def is_states(thing, clue):
    """Whether any value is an ascending tuple of states."""
    if type(thing) is not tuple or not all(is_int(state) and 0 <= state < len(clue) for state in thing):
        return False
    return list(thing) == sorted(set(thing))


def has_steps(clue, one, other, letters):
    """Whether other has all states to which those of one lead by the letters."""
    return all(clue.steps[state][clue.alphabet.letters.index(letter)] in other for state in one for letter in letters)


def has_told(clue, states):
    return any(clue.told[state] for state in states)


def barred_as_told(clue, line, sets, place=None, value=None):
    """What shows_barred must answer."""
    if place is not None or value is not None:
        if not is_int(place) or not 0 <= place < len(line):
            return False
        if type(value) is not str or value not in list(line[place].letters):
            return False
    if type(sets) is not tuple or len(sets) != len(line) + 1 or not all(is_states(row, clue) for row in sets):
        return False
    if 0 not in sets[0] or has_told(clue, sets[-1]):
        return False
    letters = [value if at == place else cell.letters for at, cell in enumerate(line)]
    return all(has_steps(clue, sets[at], sets[at + 1], letters[at]) for at in range(len(line)))


def left_as_told(clue, line, left, words, barred):
    """What shows_left_by must answer."""
    if type(words) is not tuple or type(barred) is not tuple:
        return False
    if left is None:
        return words == () and len(barred) == 1 and barred_as_told(clue, line, barred[0])
    if type(left) is not Line or left.alphabet != line.alphabet or len(left) != len(line) or not left.within(line):
        return False
    marks = marks_by_hand(left)
    others = [mark for mark in marks_by_hand(line) if mark not in marks]
    if len(words) != len(marks) or len(barred) != len(others):
        return False
    right = right_words_by_hand(clue, line)
    if not all(word in right and word[place] == value for word, (place, value) in zip(words, marks)):
        return False
    return all(barred_as_told(clue, line, sets, *mark) for sets, mark in zip(barred, others))


def sound_as_told(book, clue, thing):
    """What shows_sound must answer."""
    if type(thing) is not tuple or len(thing) != 2:
        return False
    lost, rows = thing
    if not is_states(lost, clue) or has_told(clue, lost) or not has_steps(clue, lost, lost, book.alphabet.letters):
        return False
    if type(rows) is not tuple or len(rows) != len(book.rules):
        return False
    return all(rows_as_told(clue, lost, rule, row) for rule, row in zip(book.rules, rows))


def rows_as_told(clue, lost, rule, rows):
    if type(rows) is not tuple or len(rows) != len(rule.pattern) + 1 or not all(is_states(row, clue) for row in rows):
        return False
    if 0 not in rows[0] or (not rule.left and len(rows[0]) < len(clue)):
        return False
    for at, cell in enumerate(rule.pattern):
        if not has_steps(clue, rows[at], rows[at + 1], rule.value if at == rule.at else cell.letters):
            return False
    return not has_told(clue, rows[-1]) if rule.right else all(state in lost for state in rows[-1])


def unsound_as_told(book, clue, thing):
    """What shows_unsound must answer of words that are not too long."""
    if type(thing) is not tuple or len(thing) != 3:
        return False
    word, place, number = thing
    if type(word) is not str or word == "" or any(sign not in book.alphabet.letters for sign in word):
        return False
    if not is_int(place) or not is_int(number):
        return False
    return clue(word) and (place, number) in strikes_by_hand(book, [{letter} for letter in word])


def is_tail_of(book, is_start, tail):
    reach = max([len(rule.pattern) for rule in book.rules] + [1]) - 1
    if type(tail) is not tuple or len(tail) > reach or (not is_start and len(tail) != reach):
        return False
    return all(is_int(number) and 1 <= number < 2 ** len(book.alphabet) for number in tail)


def strikes_last(book, is_start, tail, number, at_end):
    """Whether a rule strikes in a window that ends with a cell behind a tail."""
    cells = [set(book.alphabet.numbered(one).letters) for one in (*tail, number)]
    rules = [rule for rule in book.rules if rule.right == at_end]
    if not is_start:
        # A cell ahead of the tail, which no window that ends with the last cell has, keeps rules of the left end off.
        cells = [set(book.alphabet.letters), *cells]

    class Some:
        pass

    some = Some()
    some.rules = rules
    return any(place + len(rules[k].pattern) == len(cells) for place, k in strikes_by_hand(some, cells))


def stands_behind(book, clue, stand):
    """The stands that come behind any tuple of the form of a stand."""
    is_start, tail, _, states, is_marked = stand
    reach = max([len(rule.pattern) for rule in book.rules] + [1]) - 1
    found = []
    for number in range(1, 2 ** len(book.alphabet)):
        if strikes_last(book, is_start, tail, number, False):
            continue
        longer = (*tail, number)
        kept = longer[len(longer) - reach:] if len(longer) > reach else longer
        may_end = not strikes_last(book, is_start, tail, number, True)
        letters = book.alphabet.numbered(number).letters
        for some, marked in [(letters, is_marked)] + ([] if is_marked else [(letter, True) for letter in letters]):
            indexes = [clue.alphabet.letters.index(letter) for letter in some]
            after = tuple(sorted({clue.steps[state][k] for state in states for k in indexes}))
            found.append((is_start and len(longer) <= reach, kept, may_end, after, marked))
    return found


def complete_as_told(book, clue, thing):
    """What shows_complete must answer."""
    if type(thing) is not tuple:
        return False
    for stand in thing:
        if type(stand) is not tuple or len(stand) != 5 or not all(type(stand[k]) is bool for k in (0, 2, 4)):
            return False
        if not is_tail_of(book, stand[0], stand[1]) or not is_states(stand[3], clue) or stand_fails(clue, stand):
            return False
    if len(set(thing)) < len(thing) or (True, (), False, (0,), False) not in thing:
        return False
    return all(after in thing for stand in thing for after in stands_behind(book, clue, stand))


def incomplete_as_told(book, clue, thing):
    """What shows_incomplete must answer of lines that are not too long."""
    if type(thing) is not tuple or len(thing) != 4:
        return False
    numbers, place, value, sets = thing
    if type(numbers) is not tuple or len(numbers) == 0:
        return False
    if not all(is_int(number) and 1 <= number < 2 ** len(book.alphabet) for number in numbers):
        return False
    line = [book.alphabet.numbered(number) for number in numbers]
    if not is_stable_by_hand(book, line) or not is_int(place) or not 0 <= place < len(line):
        return False
    if type(value) is not str or value not in list(line[place].letters):
        return False
    return exact(sets, sets_by_hand(clue, line, place, value)) and not has_told(clue, sets[-1])


def left_trail_as_told(book, line, strikes, left):
    """What shows_left must answer."""
    cells = cells_behind(book, line, strikes)
    if cells is None or set() in cells or strikes_by_hand(book, cells):
        return False
    return type(left) is Line and left.alphabet == line.alphabet and cells_of(left) == cells


def clash_as_told(book, line, strikes):
    """What shows_clash must answer."""
    cells = cells_behind(book, line, strikes)
    return cells is not None and set() in cells


def cells_behind(book, line, strikes):
    """The cells behind any strikes, of which the last one alone may leave an empty cell; None for others."""
    if type(strikes) not in (list, tuple):
        return None
    cells = cells_of(line)
    for strike in strikes:
        if type(strike) is not tuple or len(strike) != 2 or not all(is_int(part) for part in strike):
            return None
        if set() in cells or strike not in strikes_by_hand(book, cells):
            return None
        place, number = strike
        rule = book.rules[number]
        cells[place + rule.at] = cells[place + rule.at] - {rule.value}
    return cells
