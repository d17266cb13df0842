"""Reads the words of one line of a text."""

from linestrikes.checks import is_letter_of, wrong_letter
from linestrikes.errors import BadText
from linestrikes.values import Values, are_values_letters, number_of_letters

EMPTY_WORD = "-"
DIGITS = "0123456789"
MOST_FIGURES = 9


class Cursor:
    """Goes through the words of a line of a text, and refuses the first one that cannot stand."""

    def __init__(self, row, text):
        if not isinstance(text, str):
            raise BadText(row, 0)
        self.row = row
        self.parts = text.split(" ")
        self.at = 0

    def refuse(self):
        """Raises the error for the word that comes."""
        raise BadText(self.row, self.at)

    def is_done(self):
        """Whether no word comes."""
        return self.at == len(self.parts)

    def comes(self, choices):
        """Whether the word that comes is one of these."""
        return not self.is_done() and self.parts[self.at] in choices

    def accept(self, word):
        """Steps over this word if it comes, and tells whether it did."""
        if not self.comes([word]):
            return False
        self.at += 1
        return True

    def expect(self, choices):
        """Steps over one of these words, and tells which one it was."""
        if not self.comes(choices):
            self.refuse()
        return self.step()

    def coming(self):
        """The word that comes, which is not stepped over."""
        if self.is_done():
            self.refuse()
        return self.parts[self.at]

    def step(self):
        """Steps over the word that comes, and tells which one it was."""
        word = self.coming()
        self.at += 1
        return word

    def read_values(self):
        """Steps over LETTERS, and tells the values with these letters."""
        if not are_values_letters(self.coming()):
            self.refuse()
        return Values(self.step())

    def read_letter(self, values):
        """Steps over a LETTER."""
        if not is_letter_of(values.letters, self.coming()):
            self.refuse()
        return self.step()

    def read_number(self):
        """Steps over a NUMBER, and tells the integer."""
        if not is_number(self.coming()):
            self.refuse()
        return int(self.step())

    def read_pair(self, values):
        """Steps over a PAIR."""
        if len(self.coming()) != 2 or wrong_letter(values.letters, self.coming()) is not None:
            self.refuse()
        return self.step()

    def read_word(self, values):
        """Steps over a WORD, and tells the word that it stands for."""
        if self.accept(EMPTY_WORD):
            return ""
        if self.coming() == "" or wrong_letter(values.letters, self.coming()) is not None:
            self.refuse()
        return self.step()

    def read_cell(self, values):
        """Steps over a CELL."""
        word = self.coming()
        number = number_of_letters(values.letters, word)
        # The empty word is a text of the empty cell, but no CELL; neither are letters that are not in their order.
        if not number or values.numbered(number).letters != word:
            self.refuse()
        self.at += 1
        return values.numbered(number)

    def read_cells(self, values, most):
        """Steps over as many CELLs as there are, from one to so many."""
        cells = [self.read_cell(values)]
        while len(cells) < most and not self.is_done():
            cells.append(self.read_cell(values))
        return cells

    def finish(self):
        """Refuses a word too many."""
        if not self.is_done():
            self.refuse()


def is_number(word):
    """Whether a word is a NUMBER."""
    if not 1 <= len(word) <= MOST_FIGURES or (word[0] == "0" and len(word) > 1):
        return False
    return all([sign in DIGITS for sign in word])
