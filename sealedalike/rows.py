"""Rows: the things that an onlooker sees."""

from sealedalike.errors import BadRow, BadThing, Mismatch
from sealedalike.numbering import Table
from sealedalike.seen import read_seen
from sealedalike.things import all_texts, exchanged, pieces_of_kinds, texts_of


class Row:
    """A book and things of it, in order, perhaps none, perhaps some twice."""

    def __init__(self, book, things):
        if not isinstance(things, tuple):
            raise BadRow("things")
        pieces = pieces_of_kinds(dict(book.kinds), things)
        if pieces is None:
            raise BadThing([thing for thing in things if not book.is_thing(thing)][0])
        self.book = book
        self.things = things
        self.names, self.pieces = _names_and_pieces(dict(zip(all_texts(pieces), pieces)))

    def __eq__(self, other):
        # By their texts, as things may nest deeper than Python compares tuples.
        return isinstance(other, Row) and self.book == other.book and str(self) == str(other)

    def __str__(self):
        return "\n".join([f"row {len(self.things)}", *texts_of(self.things)])

    def __len__(self):
        return len(self.things)

    def __iter__(self):
        return iter(self.things)

    def __add__(self, other):
        if self.book != other.book:
            raise Mismatch("book")
        return Row(self.book, self.things + other.things)

    @classmethod
    def read(cls, book, text):
        """The row over a book with a text; BadText tells the first wrong line of any other value."""
        seen = read_seen(Table(), book, text)
        things = seen.table.all_things()
        # What was read are things of the book, so they are not looked at again.
        row = cls(book, ())
        row.things = tuple([things[number] for number in seen.shown])
        row.names, row.pieces = _names_and_pieces(dict(zip(seen.table.all_texts(), things)))
        return row

    def with_thing(self, thing):
        """The row with one more thing behind the others; BadThing if it is none of the book."""
        return Row(self.book, (*self.things, thing))

    def only(self, places):
        """The row with just the things at these indexes."""
        return Row(self.book, tuple([self.things[place] for place in places]))

    def replaced(self, name, thing):
        """The row with a thing in the place of a name, everywhere."""
        return self._exchanged({name: thing})

    def renamed(self, pairs):
        """The row with other names for some, all at once; pairs are (name, other name)."""
        return self._exchanged(dict(pairs))

    def _exchanged(self, others):
        return Row(self.book, tuple([exchanged(thing, others) for thing in self.things]))


def _names_and_pieces(by_text):
    """The ascending tuples of the names among some things, which are told by their texts, and of all of them."""
    texts = sorted(by_text)
    # All texts but those of names begin with a small letter.
    return tuple([text for text in texts if text < "a"]), tuple([by_text[text] for text in texts])
