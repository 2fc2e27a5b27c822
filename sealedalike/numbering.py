"""Things by numbers, so that equal things are found at once, however large they are."""

from sealedalike.things import all_pieces


class Table:
    """Things with numbers from 0 on: equal things have one number, parts have lower ones than wholes.

    The form of a thing without parts is the thing itself; that of another one is its kind and the numbers of its parts.
    """

    def __init__(self):
        self.forms = []
        self.parts = []
        self.words = []
        self.numbers = {}

    def leaf(self, leaf):
        """The number of a thing without parts."""
        number = self.numbers.get(leaf)
        if number is None:
            number = self._keep(leaf, ())
            # No name begins with a small letter.
            if isinstance(leaf, str) and leaf >= "a":
                self.words.append(number)
        return number

    def whole(self, kind, parts):
        """The number of the thing of a kind with parts of these numbers."""
        form = (kind, *parts)
        number = self.numbers.get(form)
        return self._keep(form, form[1:]) if number is None else number

    def _keep(self, form, parts):
        number = len(self.forms)
        self.numbers[form] = number
        self.forms.append(form)
        self.parts.append(parts)
        return number

    def number_of(self, thing):
        """The number of any thing, whose pieces are numbered, too."""
        if isinstance(thing, str):
            return self.leaf(thing)
        # Most things are not deeper than this, which then takes less time than to list all pieces.
        for part in thing:
            if isinstance(part, tuple):
                return self.numbers_of((thing,))[0]
        return self.whole(thing[0], [self.leaf(part) for part in thing[:0:-1]][::-1])

    def numbers_of(self, things):
        """The list of the numbers of things, of which smaller pieces are numbered first."""
        return self.numbers_listed(all_pieces(things))

    def numbers_listed(self, pieces):
        """The same list for things whose pieces are listed as `all_pieces` lists them."""
        numbers = []
        done = 0
        # From the end on, parts come ahead of what they are parts of, and in the same order, backwards.
        for piece in reversed(pieces):
            if isinstance(piece, str):
                numbers.append(self.leaf(piece))
            else:
                begin = done
                done += len(piece) - 1
                numbers.append(self.whole(piece[0], numbers[begin:done][::-1]))
        return numbers[done:][::-1]

    def each_number(self, things):
        """The list of the numbers of things, of which each one is numbered ahead of those behind it."""
        return [self.number_of(thing) for thing in things]

    def exchanged(self, numbers, leaf, other):
        """The list of the numbers of things with another thing in the place of a leaf, everywhere."""
        others = {leaf: other}
        for number in range(len(self.forms)):
            parts = self.parts[number]
            if any([part in others for part in parts]):
                others[number] = self.whole(self.forms[number][0], [others.get(part, part) for part in parts])
        return [others.get(number, number) for number in numbers]

    def all_things(self):
        """The list of all things by their numbers."""
        things = []
        for form, parts in zip(self.forms, self.parts):
            things.append((form[0], *[things[part] for part in parts]) if parts else form)
        return things

    def things_with(self, numbers):
        """The list of the things with these numbers."""
        things = self.all_things()
        return [things[number] for number in numbers]

    def all_texts(self):
        """The list of the texts of all things by their numbers."""
        texts = []
        for form, parts in zip(self.forms, self.parts):
            texts.append(f"{form[0]}({','.join([texts[part] for part in parts])})" if parts else form)
        return texts

    def ascending(self, numbers):
        """The list of some numbers by the texts of the things."""
        texts = self.all_texts()
        return [number for _, number in sorted([(texts[number], number) for number in numbers])]

    def needed_at(self, needs, number):
        """The numbers of what an opening with these needs asks for; None in the place of what is not found."""
        parts = self.parts[number]
        return [self._needed(need, parts) for need in needs]

    def _needed(self, need, parts):
        if need[0] == "part":
            return parts[need[1]]
        if need[0] == "around":
            return self.whole(need[1], (parts[need[2]],))
        part = parts[need[1]]
        return self.parts[part][0] if self.parts[part] and self.forms[part][0] == need[2] else None

    def openings_at(self, book, numbers):
        """The openings that may come at things: (opening, numbers of the thing and of what is needed, given one)."""
        by_kind = {}
        for opening in book.openings:
            by_kind.setdefault(opening[1], []).append(opening)
        found = []
        for number in numbers:
            parts = self.parts[number]
            # A word may be called as a kind.
            if parts:
                for word, _, given, needs in by_kind.get(self.forms[number][0], []):
                    needed = self.needed_at(needs, number)
                    if None not in needed:
                        found.append((word, (number, *needed), parts[given]))
        return found
