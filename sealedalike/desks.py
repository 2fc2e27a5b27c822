"""Desks and sides: rows that grow as things are shown, one by one."""

from sealedalike.comparing import compare, is_alike
from sealedalike.errors import NothingToRedo, NothingToUndo
from sealedalike.having import are_had, had_pieces
from sealedalike.rows import Row


class Desk:
    """A row, and the things that were taken back from it, the last one last."""

    def __init__(self, book):
        self.book = book
        self.row = Row(book, ())
        self.taken = []

    def show(self, thing):
        """Shows a thing behind the others; BadThing if it is none of the book."""
        self.row = self.row.with_thing(thing)
        self.taken = []

    def undo(self):
        """Takes the last thing back."""
        if len(self.row) == 0:
            raise NothingToUndo()
        self.taken.append(self.row.things[-1])
        self.row = _without_last(self.row)

    def redo(self):
        """Shows the last thing again that was taken back."""
        if len(self.taken) == 0:
            raise NothingToRedo()
        self.row = self.row.with_thing(self.taken.pop())

    def gained(self):
        """The ascending tuple of the pieces of the row that can be had only since its last thing is shown."""
        pieces = had_pieces(self.row)
        before = are_had(_without_last(self.row), pieces)
        return tuple([piece for piece, had in zip(pieces, before) if not had])


class Sides:
    """Two rows that grow together."""

    def __init__(self, book):
        self.book = book
        self.left = Row(book, ())
        self.right = Row(book, ())

    def show(self, thing, other):
        """Shows a thing at each row; BadThing if one is none of the book. Whether both rows are alike."""
        left = self.left.with_thing(thing)
        right = self.right.with_thing(other)
        self.left = left
        self.right = right
        return is_alike(left, right)

    def undo(self):
        """Takes the last thing back at each row."""
        if len(self.left) == 0:
            raise NothingToUndo()
        self.left = _without_last(self.left)
        self.right = _without_last(self.right)

    def compared(self):
        """A paper that both rows are alike, or that they are unlike."""
        return compare(self.left, self.right)

    def told_at(self):
        """The least number of first things by which the rows are unlike, None if they are alike."""
        for many in range(1, len(self.left) + 1):
            if not is_alike(_first_things(self.left, many), _first_things(self.right, many)):
                return many
        return None


def _first_things(row, many):
    """The row with just so many things."""
    return row.only(tuple(range(many)))


def _without_last(row):
    """The row without its last thing, if it has one."""
    return _first_things(row, len(row) - 1)
