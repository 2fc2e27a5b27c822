"""Things by numbers, so that equal things are found at once, however large they are."""

from sealedalike.things import all_pieces


class Table:
    """Things with numbers from 0 on: equal things have one number, parts have lower ones than wholes."""

    def __init__(self):
        self.things = []
        self.kinds = []
        self.parts = []
        self.numbers = {}

    def leaf(self, leaf):
        """The number of a thing without parts."""
        if leaf not in self.numbers:
            self._keep(leaf, leaf, None, ())
        return self.numbers[leaf]

    def whole(self, kind, parts):
        """The number of the thing of a kind with parts of these numbers."""
        key = (kind, *parts)
        if key not in self.numbers:
            self._keep(key, (kind, *[self.things[part] for part in parts]), kind, tuple(parts))
        return self.numbers[key]

    def _keep(self, key, thing, kind, parts):
        self.numbers[key] = len(self.things)
        self.things.append(thing)
        self.kinds.append(kind)
        self.parts.append(parts)

    def number_of(self, thing):
        """The number of any thing, whose pieces are numbered, too."""
        pieces = all_pieces([thing])
        numbers = [0] * len(pieces)
        end = len(pieces)
        for at in reversed(range(len(pieces))):
            piece = pieces[at]
            if isinstance(piece, tuple):
                begin = end - len(piece) + 1
                numbers[at] = self.whole(piece[0], numbers[begin:end])
                end = begin
            else:
                numbers[at] = self.leaf(piece)
        return numbers[0]

    def numbers_of(self, things):
        """The list of the numbers of things."""
        return [self.number_of(thing) for thing in things]

    def needed_at(self, needs, number):
        """The numbers of what an opening with these needs asks for; None if an "inside" finds nothing."""
        found = [self._needed(need, self.parts[number]) for need in needs]
        return None if None in found else found

    def _needed(self, need, parts):
        if need[0] == "part":
            return parts[need[1]]
        if need[0] == "around":
            return self.whole(need[1], (parts[need[2]],))
        part = parts[need[1]]
        return self.parts[part][0] if self.kinds[part] == need[2] else None

    def chances_at(self, book, number):
        """The openings that may come at a thing, in order: (opening, needed numbers, given number)."""
        chances = []
        for word, kind, given, needs in book.openings:
            if kind == self.kinds[number]:
                needed = self.needed_at(needs, number)
                if needed is not None:
                    chances.append((word, needed, self.parts[number][given]))
        return chances
