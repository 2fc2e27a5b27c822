"""How many things can be had that are made of the basic ones and some words."""

from sealedalike.books import MOST_PARTS
from sealedalike.having import basis
from sealedalike.things import ascending, size_of, texts_of


def how_many(row, words, size):
    """How many things over some words have a size."""
    return _counts(row.book, _unmade(row, words), size)[size] if size > 0 else 0


def things_of(row, words, size):
    """The ascending tuple of the things over some words that have a size."""
    unmade = _unmade(row, words)
    counts = _counts(row.book, unmade, size)
    sizes = [total for total in range(1, size + 1) if counts[total] > 0]
    known = {}
    for total in _sizes_inside(row.book, sizes, size):
        known[total] = [*unmade.get(total, []), *_made_things(row.book, sizes, known, total)]
    return ascending(known[size], texts_of(known[size]))


def _unmade(row, words):
    """The things that the others are made of, in lists by their sizes."""
    unmade = {}
    # No basic thing is made of things over the words, as one of its parts cannot be had.
    for thing in (*basis(row), *words):
        unmade.setdefault(size_of(thing), []).append(thing)
    return unmade


def _counts(book, unmade, size):
    """How many things there are of each size up to this one."""
    # By number of things, then by number of pieces in all: how many tuples of things there are.
    tuples = [[0] * (size + 1) for _ in range(MOST_PARTS + 1)]
    for total in range(1, size + 1):
        made = sum([tuples[parts][total - 1] for _, parts in book.kinds])
        tuples[1][total] = made + len(unmade.get(total, []))
        for many in range(2, MOST_PARTS + 1):
            begun = [tuples[1][first] * tuples[many - 1][total - first] for first in range(1, total)]
            tuples[many][total] = sum(begun)
    return tuples[1]


def _splits(sizes, many, total):
    """All tuples of so many of the sizes that are a total together."""
    begun = [((), total)]
    for _ in range(many - 1):
        begun = [((*ahead, size), left - size) for ahead, left in begun for size in sizes if size < left]
    return [(*ahead, left) for ahead, left in begun if left in sizes]


def _sizes_inside(book, sizes, size):
    """The ascending list of the sizes of things that stand in things of a size.

    Things of other sizes are not looked at: there may be far more of them.
    """
    inside = {size: True}
    for total in range(size, 0, -1):
        if total in inside:
            for _, many in book.kinds:
                for split in _splits(sizes, many, total - 1):
                    for part in split:
                        inside[part] = True
    return sorted(inside)


def _made_things(book, sizes, known, total):
    """The things of all kinds that have a size, their parts being known by their sizes."""
    things = []
    for kind, many in book.kinds:
        for split in _splits(sizes, many, total - 1):
            begun = [(kind,)]
            for part in split:
                begun = [(*ahead, thing) for ahead in begun for thing in known[part]]
            things.extend(begun)
    return things
