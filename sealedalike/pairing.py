"""Two rows side by side: which things of theirs the same recipes come to.

Two things to which one recipe comes, one at each row, are partners. The rows are unlike as soon as a
thing would have two partners, or an opening comes at one row alone; if this never happens, the partners
are a table that shows the rows alike. Only things that are not made need to be opened: the parts of those
that are made have partners already.
"""

from sealedalike.ways import Ways

# The partner of what is made at one row, where the same step makes a thing that stands in neither row.
OUTSIDE = -1


class Both:
    """Two rows over one book, by the numbers of one table, and the ways to its things."""

    def __init__(self, one, other):
        table = one.table
        openings = table.openings_at(one.book, list(range(len(table.forms))))
        self.shown = list(zip(one.shown, other.shown))
        self.table = table
        self.ways = Ways(table, openings)
        self.given = {(word, *named): given for word, named, given in openings}

    def pairing(self):
        """The pairing of the words, as nothing is shown."""
        missing = self.ways.missing
        pairing = Pairing(self, {}, {}, list(missing), list(missing))
        pairing.told_at([(word, word) for word in self.ways.words])
        return pairing

    def are_alike(self):
        """Whether the rows are alike."""
        return self.pairing().told_at(self.shown) is None


class Pairing:
    """The partners that things have so far, from the one row to the other one and back, by numbers."""

    def __init__(self, both, there, back, lacking_there, lacking_back):
        self.both = both
        self.there = there
        self.back = back
        self.lacking_there = lacking_there
        self.lacking_back = lacking_back

    def again(self):
        """A pairing that is equal as yet."""
        return Pairing(self.both, dict(self.there), dict(self.back), list(self.lacking_there), list(self.lacking_back))

    def show(self, left, right):
        """Shows one more thing at each row; whether the rows are alike, if they were before."""
        waiting = [(left, right)]
        while waiting:
            left, right = waiting.pop()
            if left is None or right is None:
                return False
            if self.there.get(left, right) != right or self.back.get(right, left) != left:
                return False
            if left != OUTSIDE and left not in self.there:
                self.there[left] = right
                waiting.extend(self._led(left, self.there, self.lacking_there))
            if right != OUTSIDE and right not in self.back:
                self.back[right] = left
                led = self._led(right, self.back, self.lacking_back)
                waiting.extend([(partner, thing) for thing, partner in led])
        return True

    def told_at(self, pairs):
        """How many of the pairs must be shown until the rows are unlike; None if they stay alike."""
        for at, (left, right) in enumerate(pairs, start=1):
            if not self.show(left, right):
                return at
        return None

    def _led(self, number, partners, lacking):
        """To what the ways lead now at one row, and at the other one; None if an opening does not come there."""
        both = self.both
        ways = both.ways
        led = []
        for way in ways.users[number]:
            lacking[way] -= 1
            if lacking[way] == 0:
                named = [partners[part] for part in ways.named[way]]
                if way < ways.makes:
                    led.append((way, both.table.numbers.get((both.table.forms[way][0], *named), OUTSIDE)))
                elif lacking[ways.named[way][0]] > 0:
                    led.append((ways.gives[way], both.given.get((ways.openings[way - ways.makes][0], *named))))
        return led
