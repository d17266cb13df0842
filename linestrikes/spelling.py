"""Words that are right for a machine and fit a row of cells, which are told by their numbers."""


def each_word(letters, steps, told, numbers):
    """The right words that fit, in the order of the letters, each made when it is asked for."""
    alive = living_states(steps, told, numbers)
    path = []
    states = [0]
    is_one_left = alive[0][0]
    while is_one_left:
        complete_path(path, states, steps, alive, numbers)
        yield "".join([letters[k] for k in path])
        is_one_left = turn_path(path, states, steps, alive, numbers)


def word_total(steps, told, numbers):
    """How many right words fit."""
    known = {}
    ways = [int(is_told) for is_told in told]
    for number in numbers[::-1]:
        if number not in known:
            known[number] = columns_of(steps, number)
        total = [0] * len(ways)
        for column, times in known[number]:
            total = [so_far + times * ways[after] for so_far, after in zip(total, column)]
        ways = total
    return ways[0]


def living_states(steps, told, numbers):
    """For each place, and behind the last one: whether a told state is behind each state by the cells from there."""
    known = {}
    rows = [tuple(told)]
    for number in numbers[::-1]:
        # In long lines the same cell comes again and again ahead of the same living states.
        key = (number, rows[-1])
        if key not in known:
            known[key] = living_ahead(columns_of(steps, number), rows[-1])
        rows.append(known[key])
    return rows[::-1]


def living_ahead(columns, last):
    """For each state whether a column leads from it to a living one."""
    living = [False] * len(last)
    for column, _ in columns:
        living = [is_living or last[after] for is_living, after in zip(living, column)]
    return tuple(living)


def columns_of(steps, number):
    """The next states of all states for each value of a cell, and how many values have the same ones."""
    columns = {}
    for k in range(len(steps[0])):
        if (number >> k) & 1:
            column = tuple([row[k] for row in steps])
            columns[column] = columns.get(column, 0) + 1
    return list(columns.items())


def complete_path(path, states, steps, alive, numbers):
    """Goes on with the first values that lead to a right word, up to the last cell."""
    start = len(path)
    for at in range(start, len(numbers)):
        row = steps[states[at]]
        k = living_value(row, alive[at + 1], numbers[at], 0)
        path.append(k)
        states.append(row[k])


def turn_path(path, states, steps, alive, numbers):
    """Goes back to the last place that has a further value, and takes it; tells whether there is one."""
    while path:
        least = path.pop() + 1
        states.pop()
        at = len(path)
        row = steps[states[at]]
        k = living_value(row, alive[at + 1], numbers[at], least)
        if k is not None:
            path.append(k)
            states.append(row[k])
            return True
    return False


def living_value(row, living, number, least):
    """The first value of a cell, from the least one on, that leads to a living state; None if there is none."""
    for k in range(least, len(row)):
        if (number >> k) & 1 and living[row[k]]:
            return k
    return None
