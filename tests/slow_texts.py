"""Which word of a text is the first one that cannot stand, told word by word from the document's table."""

import re

KINDS = {"runs": ["letter", "number*"], "few": ["letter", "number"], "modulo": ["letter", "number", "number"],
         "neighbours": ["pair*"], "ends": ["letter", "letter"], "listed": ["word*"], "every": [], "never": []}
NUMBER = "0|[1-9][0-9]{0,8}"


def is_letters(word):
    return re.fullmatch("[a-z]{2,4}", word) is not None and len(set(word)) == len(word)


def stands(form, letters, word):
    """Whether a word is of a form: a literal word, or one of those of the document."""
    if form == "NUMBER":
        return re.fullmatch(NUMBER, word) is not None
    if form == "LETTER":
        return len(word) == 1 and word in letters
    if form == "PAIR":
        return len(word) == 2 and all(letter in letters for letter in word)
    if form == "WORD":
        return word == "-" or (word != "" and all(letter in letters for letter in word))
    if form == "CELL":
        return word != "" and "".join(letter for letter in letters if letter in word) == word
    return word == form


def wrong_word(words, letters, forms_behind):
    """The index of the first wrong word, or the number of words if some are lacking; None if all is right.

    forms_behind tells for the words so far which forms may come, and None among them if the line may end.
    """
    for at in range(len(words) + 1):
        forms = forms_behind(words[:at])
        if at == len(words):
            return None if None in forms else at
        if not any(form is not None and stands(form, letters, words[at]) for form in forms):
            return at
    return None


def fixed(*forms):
    """A line of just these forms; one that ends with a star may come any number of times."""
    def forms_behind(words):
        if len(words) < len(forms) and not forms[len(words)].endswith("*"):
            return [forms[len(words)]]
        return [None, forms[-1][:-1]] if forms[-1].endswith("*") else [None]
    return forms_behind


def many_cells(head, most):
    def forms_behind(words):
        if len(words) < len(head):
            return [head[len(words)]]
        return (["CELL"] if len(words) < most + len(head) else []) + ([None] if len(words) > len(head) else [])
    return forms_behind


def rule_forms(ahead, letters):
    """The forms of a RULE behind so many words."""
    def forms_behind(words):
        if len(words) < len(ahead):
            return [ahead[len(words)]]
        told = words[len(ahead):]
        if not told:
            return ["[", "CELL"]
        cells = told[1:] if told[0] == "[" else told
        if "strike" not in cells:
            if "]" in cells:
                return ["strike"]
            ends = ["]", "strike"] if cells else []
            return (["CELL"] if len(cells) < 4 else []) + ends
        behind = cells[cells.index("strike") + 1:]
        cells = [cell for cell in cells[:cells.index("strike")] if cell != "]"]
        if not behind:
            return [letter for letter in letters if any(letter in cell for cell in cells)]
        if len(behind) == 1:
            return ["at"]
        return [str(k) for k, cell in enumerate(cells) if behind[0] in cell] if len(behind) == 2 else [None]
    return forms_behind


def kind_forms(ahead):
    """The forms of a line of kinds behind so many words."""
    def forms_behind(words):
        if len(words) < len(ahead):
            return [ahead[len(words)]]
        told = words[len(ahead):]
        if not told:
            return ["not", *KINDS]
        if told == ["not"]:
            return list(KINDS)
        told = told[1:] if told[0] == "not" else told
        forms = [form.upper() for form in KINDS[told[0]]]
        return fixed(told[0], *forms)(told)
    return forms_behind


def wrong_place(kind, text):
    """The pair of a line and a word at which BadText is raised, None if the text can be read."""
    if not isinstance(text, str):
        return 0, 0
    rows = [row.split(" ") for row in text.split("\n")]
    if rows[0][0] != kind:
        return 0, 0
    if len(rows[0]) == 1 or not is_letters(rows[0][1]):
        return 0, 1
    if len(rows[0]) > 2:
        return 0, 2
    letters = rows[0][1]
    for at in range(1, len(rows) + 1):
        forms = row_forms(kind, letters, rows[1:at])
        if at == len(rows):
            return None if None in forms else (at, 0)
        found = wrong_row(rows[at], letters, [form for form in forms if form is not None])
        if found is not None:
            return at, found
    return None


def wrong_row(words, letters, forms):
    """The wrong word of a line that may have one of several forms: the one of the form that goes furthest."""
    places = [wrong_word(words, letters, forms_behind) for forms_behind in forms]
    return None if None in places else max(places, default=0)


def row_forms(kind, letters, rows):
    """The forms that a line behind some lines may have, and None if the text may end there."""
    if kind == "line":
        return [None] if rows else [many_cells(["cells"], 4001)]
    if kind == "book":
        return [None, rule_forms(["rule"], letters)]
    if kind == "trail":
        if rows and rows[-1][0] in ("left", "clash"):
            return [None]
        return [fixed("strike", "NUMBER", "NUMBER"), many_cells(["left"], 4001), fixed("clash")]
    states = [fixed("yes", *["NUMBER"] * len(letters)), fixed("no", *["NUMBER"] * len(letters))]
    if not rows:
        return [fixed("machine"), kind_forms([])]
    if rows == [["machine"]]:
        return states
    return [None, *states] if rows[0] == ["machine"] else [None, kind_forms([])]
