"""How the things of a table come of one another."""


class Ways:
    """The ways to things of a table: they are made of their parts, or given by openings; no more are numbered then.

    The way with the number of a thing makes it, if it has parts; behind these stand the openings.
    """

    def __init__(self, table, openings):
        self.table = table
        self.makes = len(table.parts)
        self.words = list(table.words)
        self.openings = openings
        self.named = table.parts + [named for _, named, _ in openings]
        self.gives = list(range(self.makes)) + [given for _, _, given in openings]
        self.missing = [len(named) for named in self.named]
        self.users = [[] for _ in table.parts]
        for way, named in enumerate(self.named):
            for number in named:
                self.users[number].append(way)

    def step(self, way, numbers):
        """The step that goes this way, if the steps with these numbers come to what it names."""
        if way < self.makes:
            return ("make", self.table.forms[way][0], numbers)
        return ("open", self.openings[way - self.makes][0], numbers)


class Reach:
    """To which things some ways lead: those that make things, and the openings, too, if so wanted."""

    def __init__(self, ways, opens):
        self.users = ways.users
        self.gives = ways.gives
        self.last = len(ways.gives) if opens else ways.makes
        self.missing = list(ways.missing)
        self.had = {}
        self.put(ways.words)

    def put(self, numbers):
        """Puts things to what there is, and so all things to which the ways lead then."""
        had = self.had
        missing = self.missing
        left = list(numbers)
        while left:
            number = left.pop()
            if number not in had:
                had[number] = True
                for way in self.users[number]:
                    missing[way] -= 1
                    if missing[way] == 0 and way < self.last:
                        left.append(self.gives[way])

    def has_all(self, numbers):
        """Whether the ways lead to all of these things."""
        return all([number in self.had for number in numbers])
