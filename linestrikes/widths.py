"""Which width a sound and complete book needs."""

from linestrikes.best import Best
from linestrikes.checks import is_from
from linestrikes.complete import judge_complete
from linestrikes.errors import BadNumber
from linestrikes.rules import Rule


def verdicts(clue, most_width=4, *, most=4000):
    """Whether the best strikers of the widths from 1 on are complete, up to the first one that is."""
    if not is_from(most_width, 1, Rule.LONGEST):
        raise BadNumber("most_width")
    for width in range(1, most_width + 1):
        judged = judge_complete(Best(clue, width), clue, most=most)
        yield judged
        if judged:
            return


def least_width(clue, most_width=4, *, most=4000):
    """The least width of a complete best striker, None if there is none."""
    for at, judged in enumerate(verdicts(clue, most_width, most=most)):
        if judged:
            return at + 1
    return None
