"""What recipes come to, step by step."""


class Course:
    """What steps come to at a row, one after the other: numbers of things, None for those that fail."""

    def __init__(self, seen):
        self.table = seen.table
        self.shown = seen.shown
        self.openings = {opening[0]: opening for opening in seen.book.openings}
        self.came = []

    def take(self, step):
        """Takes one more step and returns what it comes to."""
        value = self._value(step)
        self.came.append(value)
        return value

    def _value(self, step):
        if step[0] == "shown":
            return self.shown[step[1]]
        if step[0] == "word":
            return self.table.leaf(step[1])
        handed = [self.came[number] for number in step[2]]
        if None in handed:
            return None
        if step[0] == "make":
            return self.table.whole(step[1], handed)
        return self._given(self.openings[step[1]], handed)

    def _given(self, opening, handed):
        """The part that an opening gives, None if it fails."""
        _, kind, given, needs = opening
        thing = handed[0]
        parts = self.table.parts[thing]
        if not parts or self.table.forms[thing][0] != kind or self.table.needed_at(needs, thing) != handed[1:]:
            return None
        return parts[given]
