"""Whether books strike nothing that a right word needs, and the base of all judgements."""

from linestrikes.checks import same_values
from linestrikes.states import StateSets, states_of


class Judgement:
    """What was judged, and what shows it. The paper holds no line, so that nothing changes it."""

    def __init__(self, kind, parts):
        self.kind = kind
        self.told_paper = (kind, *parts)

    def __bool__(self):
        return True

    def __eq__(self, other):
        return isinstance(other, Judgement) and self.told_paper == other.told_paper

    def paper(self):
        """The tuple of the kind and of what shows the judgement."""
        return self.told_paper


class Shown(Judgement):
    """The base of the judgements that show that something does not hold."""

    def __bool__(self):
        return False


class Sound(Judgement):
    """The states from which no told state is reached, and the rows of each rule."""

    def __init__(self, lost, rows):
        Judgement.__init__(self, "sound", (lost, rows))
        self.lost = lost
        self.rows = rows


class Unsound(Shown):
    """The least right word on whose sure line a rule strikes, and where this is."""

    def __init__(self, spoiled, place, number):
        Shown.__init__(self, "unsound", (spoiled, place, number))
        self.spoiled = spoiled
        self.place = place
        self.number = number


def judge_sound(book, clue):
    """A Sound or an Unsound."""
    same_values(book, clue)
    sets = StateSets(clue)
    rows = [rule_rows(sets, rule) for rule in book.rules]
    wrong = [rule for rule, row in zip(book.rules, rows) if not is_last_row(sets, rule, row[-1])]
    if wrong:
        return unsound(book, clue, spoiled_word(clue, wrong))
    return Sound(states_of(sets.lost_ones), tuple([tuple([states_of(some) for some in row]) for row in rows]))


def is_sound_rule(rule, clue):
    """Whether the rule alone is sound."""
    same_values(rule, clue)
    sets = StateSets(clue)
    return is_last_row(sets, rule, rule_rows(sets, rule)[-1])


def rule_rows(sets, rule):
    """The rows of a rule, as sets of states."""
    rows = [1 if rule.left else sets.every]
    for at, number in enumerate(rule.wanted):
        rows.append(sets.behind(rows[-1], rule.bit if at == rule.at else number))
    return rows


def is_last_row(sets, rule, some):
    """Whether a set may be the last one of the rows of a sound rule."""
    return some & (sets.told_ones if rule.right else ~sets.lost_ones) == 0


def unsound(book, clue, word):
    """The Unsound with this word."""
    numbers = [1 << clue.alphabet.letters.index(letter) for letter in word]
    place, number = book.first_strike(numbers, 0)
    return Unsound(word, place, number)


def spoiled_word(clue, rules):
    """The least right word on whose sure line one of the rules strikes; None if there is none.

    A node (number, phase, state) stands for a rule, how many letters of its window were read, and the state. Words
    are gone through in order, but only those that come to a new node: what comes to an old one has been had sooner.
    """
    start = tuple([(number, 0, 0) for number in range(len(rules))])
    seen = {node: True for node in start}
    words = [("", start)]
    at = 0
    while at < len(words):
        word, nodes = words[at]
        if any([phase == len(rules[number]) and clue.told[state] for number, phase, state in nodes]):
            return word
        for k, letter in enumerate(clue.alphabet.letters):
            fresh = []
            for node in nodes:
                for after in nodes_behind(clue, rules[node[0]], node, k):
                    if after not in seen:
                        seen[after] = True
                        fresh.append(after)
            if fresh:
                # The nodes of a word are walked later on, so they are no list that grows.
                words.append((word + letter, tuple(fresh)))
        at += 1
    return None


def nodes_behind(clue, rule, node, k):
    """The nodes to which the value with the index k leads from a node of a rule."""
    number, phase, state = node
    after = clue.steps[state][k]
    found = []
    if (phase == 0 and not rule.left) or (phase == len(rule) and not rule.right):
        found.append((number, phase, after))
    if phase < len(rule):
        wanted = rule.bit if phase == rule.at else rule.wanted[phase]
        if (wanted >> k) & 1:
            found.append((number, phase + 1, after))
    return found
