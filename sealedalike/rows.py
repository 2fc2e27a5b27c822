"""Rows: the things that an onlooker sees."""

from sealedalike.errors import BadRow, BadText, BadThing, Mismatch
from sealedalike.parsing import number_in, thing_with_text
from sealedalike.things import all_pieces, all_texts, ascending, exchanged, is_name, texts_of


class Row:
    """A book and things of it, in order, perhaps none, perhaps some twice."""

    def __init__(self, book, things):
        if not isinstance(things, tuple):
            raise BadRow("things")
        for thing in things:
            if not book.is_thing(thing):
                raise BadThing(thing)
        pieces = all_pieces(things)
        self.book = book
        self.things = things
        self.names = tuple(sorted({piece for piece in pieces if is_name(piece)}))
        self.pieces = ascending(pieces, all_texts(pieces))

    def __eq__(self, other):
        # By their texts, as things may nest deeper than Python compares tuples.
        return isinstance(other, Row) and self.book == other.book and str(self) == str(other)

    def __str__(self):
        return "\n".join([f"row {len(self.things)}", *texts_of(self.things)])

    def __len__(self):
        return len(self.things)

    def __iter__(self):
        return iter(self.things)

    def __add__(self, other):
        if self.book != other.book:
            raise Mismatch("book")
        return Row(self.book, self.things + other.things)

    @classmethod
    def read(cls, book, text):
        """The row over a book with a text; BadText tells the first wrong line of any other value."""
        if not isinstance(text, str):
            raise BadText(0)
        lines = text.split("\n")
        many = _number_of_things(lines[0])
        if many is None:
            raise BadText(1)
        counts = dict(book.kinds)
        things = []
        for number, line in enumerate(lines[1:], start=2):
            thing = thing_with_text(counts, line)
            if thing is None or len(things) == many:
                raise BadText(number)
            things.append(thing)
        if len(things) < many:
            raise BadText(len(lines) + 1)
        return cls(book, tuple(things))

    def with_thing(self, thing):
        """The row with one more thing behind the others; BadThing if it is none of the book."""
        return Row(self.book, (*self.things, thing))

    def only(self, places):
        """The row with just the things at these indexes."""
        return Row(self.book, tuple([self.things[place] for place in places]))

    def replaced(self, name, thing):
        """The row with a thing in the place of a name, everywhere."""
        return self._exchanged({name: thing})

    def renamed(self, pairs):
        """The row with other names for some, all at once; pairs are (name, other name)."""
        return self._exchanged(dict(pairs))

    def _exchanged(self, others):
        return Row(self.book, tuple([exchanged(thing, others) for thing in self.things]))


def _number_of_things(line):
    """The number in the first line of a text of a row; None if this is no such line."""
    words = line.split(" ")
    return number_in(words[1]) if len(words) == 2 and words[0] == "row" else None
