"""Machines of clues: steps has for each state the next state for each value, told whether it is told."""

from linestrikes.errors import TooMany


def reached_states(steps):
    """The states that words come to, in the order in which words first come to them."""
    order = [0]
    seen = {0: True}
    at = 0
    while at < len(order):
        row = steps[order[at]]
        for after in row:
            if after not in seen:
                seen[after] = True
                order.append(after)
        at += 1
    return order


def finer_classes(order, steps, classes):
    """Numbers the states anew: alike are those of one class whose next states are of one class for each value."""
    rows = {}
    finer = {}
    for state in order:
        row = (classes[state], *[classes[after] for after in steps[state]])
        finer[state] = rows.setdefault(row, len(rows))
    return finer


def least_machine(steps, told, most):
    """The pair of the steps and the told states of the least machine."""
    order = reached_states(steps)
    classes = {state: int(told[state]) for state in order}
    many = 0
    while len(set(list(classes.values()))) > many:
        many = len(set(list(classes.values())))
        # Classes are only ever parted, so the least machine has as many states at least.
        if many > most:
            raise TooMany("states", most)
        classes = finer_classes(order, steps, classes)
    firsts = {}
    for state in order:
        firsts.setdefault(classes[state], state)
    states = [firsts[k] for k in range(many)]
    least_steps = tuple([tuple([classes[after] for after in steps[state]]) for state in states])
    return least_steps, tuple([told[state] for state in states])


def paired_machine(one, other):
    """The pairs of states of two machines that words come to, and the steps between their indexes."""
    pairs = [(0, 0)]
    numbers = {(0, 0): 0}
    steps = []
    at = 0
    while at < len(pairs):
        first, second = pairs[at]
        row = []
        for pair in zip(one[first], other[second]):
            if pair not in numbers:
                numbers[pair] = len(pairs)
                pairs.append(pair)
            row.append(numbers[pair])
        steps.append(row)
        at += 1
    return pairs, steps


def mirrored_machine(steps, told, most):
    """The steps and the told states of the machine that reads words from behind.

    Its states are sets of states, as sums of 2 ** state: those from which the letters so far, read from the last one
    to the first one, lead to a told state. As words come to each state, no two of these sets are alike: so there are
    as many states in the least machine.
    """
    start = sum([1 << state for state, is_told in enumerate(told) if is_told])
    sets = [start]
    numbers = {start: 0}
    rows = []
    at = 0
    while at < len(sets):
        row = []
        for k in range(len(steps[0])):
            before = states_ahead(steps, sets[at], k)
            if before not in numbers:
                numbers[before] = len(sets)
                sets.append(before)
            row.append(numbers[before])
        rows.append(row)
        if len(sets) > most:
            raise TooMany("states", most)
        at += 1
    return rows, [bool(some & 1) for some in sets]


def states_ahead(steps, some, k):
    """The set of the states from which the value with the index k leads to one of the set."""
    return sum([1 << state for state, row in enumerate(steps) if (some >> row[k]) & 1])


def first_words(letters, steps):
    """For each state of a least machine the first word that comes to it."""
    firsts = [""]
    for state in range(len(steps)):
        for letter, after in zip(letters, steps[state]):
            if after == len(firsts):
                firsts.append(firsts[state] + letter)
    return firsts
