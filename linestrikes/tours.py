"""Goes through all stands that are come to, by rounds: those of one cell, then the new ones of two cells, and so on."""

from linestrikes.errors import TooMany

# The key of a line is the index of the line ahead of its last cell times this, and the number of this cell.
KEY_STEP = 16


def tour(stands, most):
    """The list of all stands, and the numbers of the least line with a stand that fails, None if none fails.

    What comes behind a stand is told by its core, so that it is gone on with for the first stand with this core alone.
    Lines are gone through in order: so the first one that comes to a stand is the least one.
    """
    seen = {stands.first_stand: True}
    cores = {}
    fresh = ((0, stands.first_stand),)
    rounds_of_keys = []
    while fresh:
        keys, fresh = next_round(stands, fresh, seen, cores)
        rounds_of_keys.append(keys)
        failing = [at for at, stand in fresh if stands.fails(stand)]
        if failing:
            return [], line_behind(rounds_of_keys, keys[failing[0]])
        if len(seen) > most:
            raise TooMany("stands", most)
    return list(seen), None


def next_round(stands, fresh, seen, cores):
    """The ascending keys of the lines that are the first ones to come to new stands, and the tuple of these stands.

    Each stand stands in a pair behind the index of the key of its line. They are put to those that were seen, and the
    cores that are gone on with to the cores.
    """
    keys = []
    coming = []
    last = None
    for at, stand in fresh:
        core = stands.core_of(stand)
        if core not in cores:
            cores[core] = True
            for number, after in stands.onward(core):
                if after not in seen:
                    seen[after] = True
                    key = KEY_STEP * at + number
                    if key != last:
                        keys.append(key)
                        last = key
                    coming.append((len(keys) - 1, after))
    # They are walked in the next round, so they are no list that grows.
    return keys, tuple(coming)


def line_behind(rounds_of_keys, key):
    """The numbers of the cells of the line with a key of the last round."""
    numbers = []
    last = key
    ahead = [[0], *rounds_of_keys[:-1]]
    for lines in ahead[::-1]:
        numbers.append(last & (KEY_STEP - 1))
        last = lines[last // KEY_STEP]
    return numbers[::-1]
