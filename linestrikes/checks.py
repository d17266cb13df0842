"""What many of the modules ask of the values that they are passed."""

from linestrikes.errors import BadNumber, Unlike

GREATEST_MOST = 4000


def is_integer(value):
    """Whether any value is an integer."""
    return isinstance(value, int) and not isinstance(value, bool)


def is_from(value, low, high):
    """Whether any value is an integer from low to high."""
    return is_integer(value) and low <= value <= high


def is_row(value, fewest, most):
    """Whether any value is a list or a tuple with so many items."""
    return isinstance(value, (list, tuple)) and fewest <= len(value) <= most


def is_index_row(value, many):
    """Whether any value is an ascending tuple of indexes of so many things."""
    if not isinstance(value, tuple) or not all([is_from(index, 0, many - 1) for index in value]):
        return False
    return all([one < other for one, other in zip(value, value[1:])])


def is_letter_of(letters, value):
    """Whether any value is one of the letters of a string."""
    return isinstance(value, str) and len(value) == 1 and value in letters


def wrong_letter(letters, word):
    """The index of the first sign of a word that is none of the letters, 0 for what is no string, otherwise None."""
    if not isinstance(word, str):
        return 0
    for at, letter in enumerate(word):
        if letter not in letters:
            return at
    return None


def same_values(one, other):
    """Refuses two things that are used together if their values are not equal."""
    if one.alphabet != other.alphabet:
        raise Unlike("values")


def refuse_wrong_most(most):
    """Raises BadNumber for any value that no most behind a star may be."""
    if not is_from(most, 1, GREATEST_MOST):
        raise BadNumber("most")
