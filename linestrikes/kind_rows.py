"""Lines of texts that tell a kind of clue. They are read first, and the clues are made of what was read."""

from linestrikes.kinds import Ends, Every, Few, Listed, Modulo, Neighbours, Never, Runs

# What stands behind the word of each kind, and of what there may be any number behind that.
ARGUMENTS = {"runs": ("LETTER",), "few": ("LETTER", "NUMBER"), "modulo": ("LETTER", "NUMBER", "NUMBER"),
             "neighbours": (), "ends": ("LETTER", "LETTER"), "listed": (), "every": (), "never": ()}
REPEATED = {"runs": "NUMBER", "neighbours": "PAIR", "listed": "WORD"}


def read_kind(values, cursor):
    """What a line of kinds tells: whether it has the word not, the word of the kind, and the arguments of the kind."""
    is_turned = cursor.accept("not")
    word = cursor.expect(list(ARGUMENTS))
    told = [read_argument(values, cursor, form) for form in ARGUMENTS[word]]
    while word in REPEATED and not cursor.is_done():
        told.append(read_argument(values, cursor, REPEATED[word]))
    cursor.finish()
    return is_turned, word, told


def read_argument(values, cursor, form):
    """Steps over a word of this form, and tells what it stands for."""
    if form == "LETTER":
        return cursor.read_letter(values)
    if form == "NUMBER":
        return cursor.read_number()
    if form == "PAIR":
        return cursor.read_pair(values)
    return cursor.read_word(values)


def clue_of_kind(values, kind):
    """The clue of what was read."""
    is_turned, word, told = kind
    clue = plain_clue(values, word, told)
    return ~clue if is_turned else clue


def plain_clue(values, word, told):
    """The clue of a kind with these arguments."""
    if word == "runs":
        return Runs(values, *told)
    if word == "few":
        return Few(values, told[0], told[1])
    if word == "modulo":
        return Modulo(values, told[0], told[1], told[2])
    if word == "neighbours":
        return Neighbours(values, *told)
    if word == "ends":
        return Ends(values, told[0], told[1])
    if word == "listed":
        return Listed(values, *told)
    return Every(values) if word == "every" else Never(values)
