"""What an onlooker has of a row, all by numbers."""

from sealedalike.things import is_name, is_word
from sealedalike.ways import Reach, Ways


class Onlooker:
    """The ways to the pieces of a row, to what is needed to open them, and to other things of which is asked."""

    def __init__(self, seen, others=()):
        self.table = seen.table
        self.shown = seen.shown
        openings = self.table.openings_at(seen.book, list(range(len(self.table.forms))))
        self.others = self.table.each_number(others)
        self.ways = Ways(self.table, openings)

    def reach(self):
        """What can be had of the row."""
        reach = Reach(self.ways, True)
        reach.put(self.shown)
        return reach

    def basics(self, reach):
        """The list of the numbers of the basic things."""
        return self.basics_among(reach, reach.had)

    def basics_among(self, reach, numbers):
        """The list of those of some things that are basic, all of which can be had."""
        return [number for number in numbers if reach.missing[number] > 0 or is_name(self.table.forms[number])]

    def got(self):
        """The list of the numbers of the got things, in order."""
        openings = {}
        for _, (number, *needed), given in self.ways.openings:
            openings.setdefault(number, []).append((needed, given))
        making = Reach(self.ways, False)
        got = {}
        waiting = []
        following = self.shown
        while following:
            for number in following:
                if number not in got:
                    got[number] = True
                    making.put([number])
                    waiting.extend(openings.get(number, []))
            waiting = [(needed, given) for needed, given in waiting if given not in got]
            following = _first_given(making, waiting)
        return list(got)

    def first_steps(self):
        """The steps that name no others, by the numbers of what they come to; for each thing the first one."""
        steps = {}
        for at, number in enumerate(self.shown):
            steps.setdefault(number, ("shown", at))
        for number in self.table.words:
            steps.setdefault(number, ("word", self.table.forms[number]))
        return steps

    def rules(self):
        """What steps may come to: (number of the thing, first words of the step, numbers of the things it names)."""
        rules = [(number, ("shown", at), ()) for at, number in enumerate(self.shown)]
        for number, (form, parts) in enumerate(zip(self.table.forms, self.table.parts)):
            if parts:
                rules.append((number, ("make", form[0]), parts))
            elif is_word(form):
                rules.append((number, ("word", form), ()))
        return rules + [(given, ("open", word), named) for word, named, given in self.ways.openings]


def _first_given(making, openings):
    """A list of what is given by the first opening of some that comes by what is made, if any does."""
    for needed, given in openings:
        if making.has_all(needed):
            return [given]
    return []
