"""Goes through all stands that are come to, by rounds: those of one cell, then the new ones of two cells, and so on."""

from linestrikes.errors import TooMany

# The key of a line is the index of the line ahead of its last cell times this, and the number of this cell.
KEY_STEP = 16


def tour(stands, most):
    """The list of all stands, and the numbers of the least line with a stand that fails, None if none fails.

    All stands that come in a round come of those that are new in the round before. As of each of these the least line
    is known, and keys are in the order of the lines, the least key of a stand tells the least line that comes to it.
    """
    seen = {stands.first_stand: True}
    fresh = [(0, stands.first_stand)]
    rounds_of_keys = []
    while fresh:
        least = least_keys(stands, fresh, seen)
        lines = sorted(set(list(least.values())))
        rounds_of_keys.append(lines)
        failing = [key for stand, key in least.items() if stands.fails(stand)]
        if failing:
            return [], line_behind(rounds_of_keys, min(failing))
        for stand in least:
            seen[stand] = True
        if len(seen) > most:
            raise TooMany("stands", most)
        indexes = {key: at for at, key in enumerate(lines)}
        fresh = [(indexes[key], stand) for stand, key in least.items()]
    return list(seen), None


def least_keys(stands, fresh, seen):
    """A dict with the least key for each new stand that comes behind the fresh ones."""
    least = {}
    for at, stand in fresh:
        for number, after in stands.onward(stand):
            if after not in seen:
                key = KEY_STEP * at + number
                if least.get(after, key) >= key:
                    least[after] = key
    return least


def line_behind(rounds_of_keys, key):
    """The numbers of the cells of the line with a key of the last round."""
    numbers = []
    last = key
    ahead = [[0], *rounds_of_keys[:-1]]
    for lines in ahead[::-1]:
        numbers.append(last & (KEY_STEP - 1))
        last = lines[last // KEY_STEP]
    return numbers[::-1]
