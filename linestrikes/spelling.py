"""Words that are right for a machine and fit a row of cells, which are told by their numbers."""


def each_word(letters, steps, told, numbers):
    """The right words that fit, in the order of the letters, each made when it is asked for."""
    alive = living_states(steps, told, numbers)
    path = []
    states = [0]
    is_one_left = alive[0][0]
    while is_one_left:
        complete_path(path, states, steps, alive, numbers)
        yield "".join([letters[k] for k in path])
        is_one_left = turn_path(path, states, steps, alive, numbers)


def word_total(steps, told, numbers):
    """How many right words fit."""
    ways = [int(is_told) for is_told in told]
    for number in numbers[::-1]:
        ways = [sum([ways[after] for k, after in enumerate(row) if (number >> k) & 1]) for row in steps]
    return ways[0]


def living_states(steps, told, numbers):
    """For each place, and behind the last one: whether a told state is behind each state by the cells from there."""
    rows = [list(told)]
    for number in numbers[::-1]:
        last = rows[-1]
        rows.append([any([last[after] for k, after in enumerate(row) if (number >> k) & 1]) for row in steps])
    return rows[::-1]


def complete_path(path, states, steps, alive, numbers):
    """Goes on with the first values that lead to a right word, up to the last cell."""
    start = len(path)
    for at in range(start, len(numbers)):
        row = steps[states[at]]
        k = living_value(row, alive[at + 1], numbers[at], 0)
        path.append(k)
        states.append(row[k])


def turn_path(path, states, steps, alive, numbers):
    """Goes back to the last place that has a further value, and takes it; tells whether there is one."""
    while path:
        least = path.pop() + 1
        states.pop()
        at = len(path)
        row = steps[states[at]]
        k = living_value(row, alive[at + 1], numbers[at], least)
        if k is not None:
            path.append(k)
            states.append(row[k])
            return True
    return False


def living_value(row, living, number, least):
    """The first value of a cell, from the least one on, that leads to a living state; None if there is none."""
    for k in range(least, len(row)):
        if (number >> k) & 1 and living[row[k]]:
            return k
    return None
