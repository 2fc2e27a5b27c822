"""Which things of a row an onlooker gets, and what is made of them, all by numbers."""

from sealedalike.numbering import Table
from sealedalike.things import is_name, is_word


class Making:
    """Which things of a table are made of the marked ones; no more things are numbered meanwhile."""

    def __init__(self, table):
        self.made = {}
        self.missing = [len(parts) for parts in table.parts]
        self.users = [[] for _ in table.parts]
        for number, parts in enumerate(table.parts):
            for part in parts:
                self.users[part].append(number)
        for number, thing in enumerate(table.things):
            if is_word(thing):
                self.mark(number)

    def mark(self, number):
        """Marks a thing, and so all things that are made now."""
        left = [number]
        while left:
            made = left.pop()
            if made not in self.made:
                self.made[made] = True
                for user in self.users[made]:
                    self.missing[user] -= 1
                    if self.missing[user] == 0:
                        left.append(user)

    def all_made(self, numbers):
        """Whether all of these things are made."""
        return all([number in self.made for number in numbers])


class Onlooker:
    """What an onlooker has of a row; other things, of which may be asked, are numbered, too."""

    def __init__(self, row, others=()):
        self.table = Table()
        self.shown = self.table.numbers_of(row.things)
        many = len(self.table.things)
        self.chances = [self.table.chances_at(row.book, number) for number in range(many)]
        self.others = self.table.numbers_of(others)
        self.making = Making(self.table)
        self.got = {}
        self.waiting = []
        for number in self.shown:
            self._get(number)
        given = self._next_given()
        while given is not None:
            self._get(given)
            given = self._next_given()

    def _get(self, number):
        if number not in self.got:
            self.got[number] = True
            self.making.mark(number)
            self.waiting.extend(self.chances[number])

    def _next_given(self):
        """The part that is got next, None if there is none."""
        self.waiting = [chance for chance in self.waiting if chance[2] not in self.got]
        for _, needed, given in self.waiting:
            if self.making.all_made(needed):
                return given
        return None

    def things_with(self, numbers):
        """The list of the things with these numbers."""
        return [self.table.things[number] for number in numbers]

    def basics(self):
        """The list of the numbers of the basic things, in the order in which they are got."""
        return [number for number in self.got if self._is_basic(number)]

    def _is_basic(self, number):
        """Whether a got thing is basic."""
        parts = self.table.parts[number]
        return not self.making.all_made(parts) if parts else is_name(self.table.things[number])

    def rules(self):
        """What steps may come to: (number of the thing, first words of the step, numbers of the things it names)."""
        table = self.table
        rules = [(number, ("shown", at), ()) for at, number in enumerate(self.shown)]
        for number, thing in enumerate(table.things):
            if is_word(thing):
                rules.append((number, ("word", thing), ()))
            elif table.parts[number]:
                rules.append((number, ("make", table.kinds[number]), table.parts[number]))
        for number, chances in enumerate(self.chances):
            for word, needed, given in chances:
                rules.append((given, ("open", word), (number, *needed)))
        return rules
