"""Findings: what was found of a book and of rows, which are told by their texts."""

from sealedalike.books import Book
from sealedalike.comparing import paper_compares
from sealedalike.errors import BadText
from sealedalike.having import is_basis, paper_holds, size_in
from sealedalike.numbering import Table
from sealedalike.seen import read_seen
from sealedalike.things import is_name
from sealedalike.whatever import telling_thing


def _had_holds(seen, thing, recipe):
    return seen.book.is_thing(thing) and paper_holds(seen, thing, "had", recipe)


def _kept_holds(seen, thing, things):
    return seen.book.is_thing(thing) and paper_holds(seen, thing, "closed", things)


def _basis_holds(seen, things):
    return is_basis(seen, things)


def _size_holds(seen, thing, size):
    if not isinstance(size, int) or isinstance(size, bool):
        return False
    return seen.book.is_thing(thing) and size_in(seen, thing) == size


def _alike_holds(seen, text, pairs):
    return _compares(seen, text, ("alike", pairs))


def _comes_holds(seen, text, recipe):
    return _compares(seen, text, ("comes", recipe))


def _same_holds(seen, text, recipe, other):
    return _compares(seen, text, ("same", recipe, other))


def _nothing_holds(seen, name):
    return is_name(name) and telling_thing(seen, name) is None


# What is asked of the parts behind the texts of the book and of the row, and how many these are.
HOLDS = {
    "had": _had_holds, "kept": _kept_holds, "basis": _basis_holds, "size": _size_holds,
    "alike": _alike_holds, "comes": _comes_holds, "same": _same_holds, "nothing": _nothing_holds,
}
PARTS = {"had": 2, "kept": 2, "basis": 1, "size": 2, "alike": 2, "comes": 2, "same": 3, "nothing": 1}


def finding_holds(thing):
    """Whether any value is a finding with valid parts, and what it says is so."""
    if not isinstance(thing, tuple) or len(thing) < 3 or not isinstance(thing[0], str):
        return False
    word, book_text, row_text, *parts = thing
    if word not in HOLDS or len(parts) != PARTS[word]:
        return False
    try:
        seen = read_seen(Table(), Book.read(book_text), row_text)
    except BadText:
        return False
    holds = HOLDS[word]
    return holds(seen, *parts)


def _compares(seen, text, paper):
    """Whether a paper about a row and another one with a text is right."""
    try:
        other = read_seen(seen.table, seen.book, text)
    except BadText:
        return False
    return len(seen.shown) == len(other.shown) and paper_compares(seen, other, paper)
