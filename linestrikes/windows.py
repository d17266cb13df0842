"""What strikers strike in the windows of a line that is walked through cell by cell."""


class Windows:
    """The windows of a striker, each of which is looked at once."""

    def __init__(self, striker):
        self.striker = striker
        self.looked = {}

    def look(self, numbers, is_start):
        """What strikes in the windows that end with these cells: a pair, in any case, and if the line ends there."""
        key = (is_start, numbers)
        if key not in self.looked:
            striker = self.striker
            self.looked[key] = (striker.struck_behind(numbers, is_start, False),
                                striker.struck_behind(numbers, is_start, True))
        return self.looked[key]
