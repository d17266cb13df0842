"""Writes lines, books, clues and trails as texts."""


def write_line(line):
    """The text of a line."""
    return text_of("line", line.alphabet, [cells_row("cells", line)])


def write_book(book):
    """The text of a book."""
    return text_of("book", book.alphabet, [f"rule {rule}" for rule in book])


def write_clue(clue):
    """The text of a clue: its least machine."""
    rows = [" ".join(["yes" if is_told else "no", *[str(after) for after in row]])
            for row, is_told in zip(clue.steps, clue.told)]
    return text_of("clue", clue.alphabet, ["machine", *rows])


def write_trail(values, strikes, left):
    """The text of the strikes of a trail and of what is left, None for a clash."""
    rows = [f"strike {place} {number}" for place, number in strikes]
    return text_of("trail", values, [*rows, "clash" if left is None else cells_row("left", left)])


def text_of(word, values, rows):
    """The text with these lines behind the first one."""
    return "\n".join([f"{word} {values.letters}", *rows])


def cells_row(word, line):
    """The line of a text that has the cells of a line."""
    return f"{word} {line}"
