"""Reads the words of one line of a text."""

from linestrikes.errors import BadText
from linestrikes.values import number_of_letters


class Cursor:
    """Goes through the words of a line of a text, and refuses the first one that cannot stand."""

    def __init__(self, row, text):
        if not isinstance(text, str):
            raise BadText(row, 0)
        self.row = row
        self.parts = text.split(" ")
        self.at = 0

    def refuse(self):
        """Raises the error for the word that comes."""
        raise BadText(self.row, self.at)

    def is_done(self):
        """Whether no word comes."""
        return self.at == len(self.parts)

    def comes(self, choices):
        """Whether the word that comes is one of these."""
        return not self.is_done() and self.parts[self.at] in choices

    def accept(self, word):
        """Steps over this word if it comes, and tells whether it did."""
        if not self.comes([word]):
            return False
        self.at += 1
        return True

    def expect(self, choices):
        """Steps over one of these words, and tells which one it was."""
        if not self.comes(choices):
            self.refuse()
        self.at += 1
        return self.parts[self.at - 1]

    def read_cell(self, values):
        """Steps over a CELL."""
        if self.is_done():
            self.refuse()
        number = number_of_letters(values.letters, self.parts[self.at])
        # The empty word is a text of the empty cell, but no CELL; neither are letters that are not in their order.
        if not number or values.numbered(number).letters != self.parts[self.at]:
            self.refuse()
        self.at += 1
        return values.numbered(number)

    def read_cells(self, values, most):
        """Steps over as many CELLs as there are, from one to so many."""
        cells = [self.read_cell(values)]
        while len(cells) < most and not self.is_done():
            cells.append(self.read_cell(values))
        return cells

    def finish(self):
        """Refuses a word too many."""
        if not self.is_done():
            self.refuse()
