"""Rows by numbers."""

from sealedalike.errors import BadText
from sealedalike.numbering import Table
from sealedalike.parsing import number_in, number_with_text
from sealedalike.things import pieces_of_kinds


class Seen:
    """The book of a row, a table with all pieces of its things, and the numbers of these things in order."""

    def __init__(self, book, table, shown):
        self.book = book
        self.table = table
        self.shown = shown

    def numbers_of_any(self, values):
        """The list of the numbers of any values that are things of the book, None if one is none."""
        pieces = pieces_of_kinds(dict(self.book.kinds), values)
        return None if pieces is None else self.table.numbers_listed(pieces)


def seen_row(row):
    """A row by numbers."""
    return seen_in(Table(), row)


def seen_in(table, row):
    """A row by the numbers of a table."""
    return Seen(row.book, table, table.each_number(row.things))


def read_seen(table, book, text):
    """The row over a book with a text, by the numbers of a table; BadText tells the first wrong line of others."""
    if not isinstance(text, str):
        raise BadText(0)
    lines = text.split("\n")
    many = _number_of_things(lines[0])
    if many is None:
        raise BadText(1)
    counts = dict(book.kinds)
    shown = []
    for line in lines[1:]:
        number = number_with_text(table, counts, line) if len(shown) < many else None
        if number is None:
            raise BadText(len(shown) + 2)
        shown.append(number)
    if len(shown) < many:
        raise BadText(len(lines) + 1)
    return Seen(book, table, shown)


def _number_of_things(line):
    """The number in the first line of a text of a row; None if this is no such line."""
    words = line.split(" ")
    return number_in(words[1]) if len(words) == 2 and words[0] == "row" else None
