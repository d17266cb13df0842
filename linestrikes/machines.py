"""Machines of clues: steps has for each state the next state for each value, told whether it is told."""

from linestrikes.errors import TooMany

# The words that states are first told apart by have up to 127 letters, so that those of a long circle come apart too.
MOST_DOUBLINGS = 7
# With fewer pairs of states it is sooner to tell them apart letter by letter alone.
MANY_PAIRS = 32


def numbered_machine(steps, told, start):
    """The steps and the told states of the states that words come to, numbered as words first come to them."""
    order = [start]
    numbers = {start: 0}
    at = 0
    while at < len(order):
        row = steps[order[at]]
        for after in row:
            if after not in numbers:
                numbers[after] = len(order)
                order.append(after)
        at += 1
    rows = [tuple([numbers[after] for after in steps[state]]) for state in order]
    return tuple(rows), tuple([told[state] for state in order])


def least_machine(steps, told, most):
    """The steps and the told states of the least machine."""
    numbered_steps, numbered_told = numbered_machine(steps, told, 0)
    return merged_machine(numbered_steps, numbered_told, class_numbers(numbered_told), most)


def merged_machine(steps, told, classes, most):
    """The least machine of one whose states are numbered as words first come to them.

    States of unlike classes are not alike. Classes are numbered as they first come, so their numbers are in order too.
    """
    many = 0
    while max(classes) + 1 > many:
        many = max(classes) + 1
        # Classes are only ever parted, so the least machine has as many states at least.
        if many > most:
            raise TooMany("states", most)
        if many < len(steps):
            classes = class_numbers([(mine, *[classes[after] for after in row]) for mine, row in zip(classes, steps)])
    firsts = [classes.index(k) for k in range(many)]
    rows = [tuple([classes[after] for after in steps[state]]) for state in firsts]
    return tuple(rows), tuple([told[state] for state in firsts])


def class_numbers(things):
    """For each thing the number of its class: equal things are of one class, numbered as they first come."""
    numbers = {}
    classes = []
    for thing in things:
        if thing not in numbers:
            numbers[thing] = len(numbers)
        classes.append(numbers[thing])
    return classes


def joined_machine(one, other, sign, most):
    """The least machine for what a sign between two clues tells, each of them a pair of steps and told states.

    Its states are pairs of states. Before they are merged, each gets bits that tell whether some words lead from it to
    a told state. Pairs with unlike bits are not alike: so most that is too large is refused with few pairs looked at.
    """
    many = len(other[1])
    most_pairs = len(one[1]) * many
    doublings = 0 if most_pairs < MANY_PAIRS else min(MOST_DOUBLINGS, most_pairs.bit_length())
    mine, their = power_bits(one[0], one[1], doublings), power_bits(other[0], other[1], doublings)
    pairs = [0]
    numbers = {0: 0}
    bits = [joined_bits(sign, mine[0], their[0])]
    unlike = {bits[0]: True}
    steps = []
    while len(steps) < len(pairs):
        first, second = divmod(pairs[len(steps)], many)
        row = []
        for after, other_after in zip(one[0][first], other[0][second]):
            pair = after * many + other_after
            if pair not in numbers:
                numbers[pair] = len(pairs)
                pairs.append(pair)
                bits.append(joined_bits(sign, mine[after], their[other_after]))
                unlike[bits[-1]] = True
            row.append(numbers[pair])
        if len(unlike) > most:
            raise TooMany("states", most)
        steps.append(row)
    return merged_machine(steps, [bool(some & 1) for some in bits], class_numbers(bits), most)


def joined_bits(sign, mine, their):
    """What a sign makes of the bits of two states."""
    if sign == "&":
        return mine & their
    if sign == "|":
        return mine | their
    if sign == "-":
        return mine & ~their
    return mine ^ their


def power_bits(steps, told, doublings):
    """For each state bits that tell whether words of one letter alone lead from it to a told state.

    For each letter these are the words of 0, 1, 2 letters and so on, as many as so many doublings of 1. So the lowest
    bit tells whether the state itself is told.
    """
    by_column = {}
    bits = [0] * len(steps)
    for k in range(len(steps[0])):
        column = tuple([row[k] for row in steps])
        if column not in by_column:
            by_column[column] = bits_of_column(column, told, doublings)
        bits = [some | (more << (k << doublings)) for some, more in zip(bits, by_column[column])]
    return bits


def bits_of_column(column, told, doublings):
    """As power_bits, for the letter that leads from each state to the one that the column has for it."""
    bits = [int(is_told) for is_told in told]
    jumps = column
    for k in range(doublings):
        bits = [some | (bits[after] << (1 << k)) for some, after in zip(bits, jumps)]
        jumps = [jumps[after] for after in jumps]
    return bits


def leads_within(one, other):
    """Whether each word that leads to a told state of one, a pair of steps and told states, leads to one of other."""
    many = len(other[1])
    if one[1][0] and not other[1][0]:
        return False
    pairs = [(0, 0)]
    seen = [False] * (len(one[1]) * many)
    seen[0] = True
    while pairs:
        first, second = pairs.pop()
        for k in range(len(one[0][0])):
            mine, their = one[0][first][k], other[0][second][k]
            # A letter is gone on with at once, as a word that shows the contrary often has one letter again and again.
            while not seen[mine * many + their]:
                if one[1][mine] and not other[1][their]:
                    return False
                seen[mine * many + their] = True
                pairs.append((mine, their))
                mine, their = one[0][mine][k], other[0][their][k]
    return True


def mirrored_machine(steps, told, most):
    """The steps and the told states of the machine that reads words from behind.

    Its states tell for each state whether the letters so far, read from the last one to the first one, lead from it to
    a told state. As words come to each state of a least machine, no two of them are alike. So they are those of the
    least machine, and they come in its order.
    """
    columns = [[row[k] for row in steps] for k in range(len(steps[0]))]
    sets = [told]
    numbers = {told: 0}
    rows = []
    while len(rows) < len(sets):
        some = sets[len(rows)]
        turned = []
        for column in columns:
            before = tuple([some[after] for after in column])
            if before not in numbers:
                numbers[before] = len(sets)
                sets.append(before)
            turned.append(numbers[before])
        rows.append(tuple(turned))
        if len(sets) > most:
            raise TooMany("states", most)
    return tuple(rows), tuple([some[0] for some in sets])


def first_words(letters, steps):
    """For each state of a least machine the first word that comes to it."""
    firsts = [""]
    for state in range(len(steps)):
        for letter, after in zip(letters, steps[state]):
            if after == len(firsts):
                firsts.append(firsts[state] + letter)
    return firsts
