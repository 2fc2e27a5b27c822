"""Findings: what was found of a book and of rows, which are told by their texts."""

from sealedalike.books import Book
from sealedalike.comparing import compare_holds
from sealedalike.errors import BadText
from sealedalike.having import basis, is_had, judge_holds, least_size
from sealedalike.rows import Row
from sealedalike.things import is_name, texts_of
from sealedalike.whatever import tells_nothing


def _had_holds(row, thing, recipe):
    return row.book.is_thing(thing) and judge_holds(row, thing, ("had", recipe))


def _kept_holds(row, thing, things):
    return row.book.is_thing(thing) and judge_holds(row, thing, ("closed", things))


def _basis_holds(row, things):
    if not isinstance(things, tuple) or not all([row.book.is_thing(thing) for thing in things]):
        return False
    # By their texts, as things may nest deeper than Python compares tuples.
    return texts_of(things) == texts_of(basis(row))


def _size_holds(row, thing, size):
    if not isinstance(size, int) or isinstance(size, bool):
        return False
    return is_had(row, thing) and least_size(row, thing) == size


def _alike_holds(row, text, pairs):
    return _paper_holds(row, text, ("alike", pairs))


def _comes_holds(row, text, recipe):
    return _paper_holds(row, text, ("comes", recipe))


def _same_holds(row, text, recipe, other):
    return _paper_holds(row, text, ("same", recipe, other))


def _nothing_holds(row, name):
    return is_name(name) and tells_nothing(row, name)


# What is asked of the parts behind the texts of the book and of the row, and how many these are.
HOLDS = {
    "had": _had_holds, "kept": _kept_holds, "basis": _basis_holds, "size": _size_holds,
    "alike": _alike_holds, "comes": _comes_holds, "same": _same_holds, "nothing": _nothing_holds,
}
PARTS = {"had": 2, "kept": 2, "basis": 1, "size": 2, "alike": 2, "comes": 2, "same": 3, "nothing": 1}


def finding_holds(thing):
    """Whether any value is a finding with valid parts, and what it says is so."""
    if not isinstance(thing, tuple) or len(thing) < 3 or not isinstance(thing[0], str):
        return False
    word, book_text, row_text, *parts = thing
    if word not in HOLDS or len(parts) != PARTS[word]:
        return False
    book = _book_with(book_text)
    row = None if book is None else _row_with(book, row_text)
    holds = HOLDS[word]
    return row is not None and holds(row, *parts)


def _paper_holds(row, text, paper):
    """Whether a paper about a row and another one with a text is right."""
    other = _row_with(row.book, text)
    return other is not None and compare_holds(row, other, paper)


def _book_with(text):
    """The book with a text, None if there is none."""
    try:
        return Book.read(text)
    except BadText:
        return None


def _row_with(book, text):
    """The row over a book with a text, None if there is none."""
    try:
        return Row.read(book, text)
    except BadText:
        return None
