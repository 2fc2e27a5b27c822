"""Books, things and values of all kinds that several tests use."""

import random

from sealedalike.books import Book, standard_book
from sealedalike.errors import BadThing, NothingToUndo, SealError
from sealedalike.rows import Row

STD = standard_book()
STD_TEXT = """kind half 1
kind lock 2
kind mark 1
kind pair 2
kind seal 2
kind sign 2
opening first pair 0
opening open lock 0 part 1
opening second pair 1
opening shown sign 0
opening signed sign 0 around half 1
opening unseal seal 0 inside 1 half"""

# Kinds and openings that are called as the words of lines and needs are, and kinds of one letter.
AWKWARD = Book(
    (("around", 1), ("h", 1), ("inside", 2), ("kind", 1), ("opening", 3), ("part", 1)),
    (
        ("a", "opening", 2, (("inside", 0, "part"), ("around", "part", 1))),
        ("b", "inside", 1, (("part", 1), ("part", 1))),
        ("c", "opening", 0, (("around", "around", 2), ("inside", 1, "around"))),
        ("d", "part", 0, (("inside", 0, "h"),)),
        ("e", "h", 0, ()),
    ),
)

ROW = Row(STD, (("lock", ("pair", "a", "N"), "K"), ("seal", "K", ("half", "S")), "S"))
# A recipe for ROW that comes to N.
GOOD = (
    ("shown", 0), ("shown", 1), ("shown", 2), ("open", "unseal", (1, 2)), ("open", "open", (0, 3)),
    ("open", "second", (4,)),
)
# Each key is locked within another one of the locks.
RING = Row(STD, (("lock", ("pair", "B", "C"), "A"), ("lock", "C", "B"), ("lock", "A", "C")))


def nested(times, inner, wrap):
    """What comes of wrapping a value so many times."""
    for _ in range(times):
        inner = wrap(inner)
    return inner


def odd_values():
    """Values that are no words, names, things, books or texts, whatever the book."""
    return [
        None, True, False, 0, 1, -1, 10 ** 39, -(10 ** 39),
        (), [], {}, ("",), ((),), ([],), ({},), (None,), (1,), (True,), ("a",), ("A",),
        ["a"], ["half", "a"], {"a": 1}, {"half": "a"}, [("half", "a")],
        "", " ", "a ", " a", "a\n", "\na", "aB", "Aa_", "a1", "1", "1a", "abcdefghi", "A12345678", "AB",
        "half(", "half)", "(", ")", ",", "()", "a,b", "half()", "Half(a)", "half(a)\n", "half (a)", "half(a,)",
        "a" * 4000, "A" * 4000, "(" * 200, "half(" * 200, "\n" * 4000, "~", "a~",
        (1, "a"), (True, "a"), (None, "a"), ([], "a"), ({}, "a"), ((), "a"), (("half",), "a"), (STD, "a"),
        ("A", "a"), ("", "a"), ("a" * 9, "a"), ("nokind", "a"), ("half", 1), ("half", None), ("half", ["half", "a"]),
        ("half", ("half", ("half", True))), ("half", ""), ("half", "a b"), ("half", STD), ("half",),
        ("half", "a", "b"), ("lock", "a"), ("lock", "a", "K", "K"), ("lock", "a", ["K"]), ["lock", "a", "K"],
        STD, AWKWARD, ROW, (ROW,), ("half", ROW), SealError(), BadThing(["a"]), NothingToUndo(),
        nested(40, "a", lambda inner: [inner]), nested(40, "a", lambda inner: (inner,)),
        nested(40, "a", lambda inner: {"half": inner}), nested(40, [], lambda inner: ("half", inner)),
        nested(13, "A b", lambda inner: ("pair", inner, inner)), ("half", *["a"] * 19000), ("half", ["a"] * 19000),
    ]


def some_book(chance):
    """A book with short words, some of which begin alike."""
    words = sorted({"".join(chance.choice("abkn") for _ in range(chance.randint(1, 3))) for _ in range(12)})
    chosen = chance.sample(words, min(len(words), 9))
    kinds = tuple(sorted((word, chance.randint(1, 3)) for word in chosen[:4]))
    single = [kind for kind, many in kinds if many == 1]

    def need(many):
        number = chance.randrange(many)
        needs = [("part", number)]
        if single:
            needs += [("around", chance.choice(single), number), ("inside", number, chance.choice(single))]
        return chance.choice(needs)

    openings = []
    for word in sorted(chosen[4:]):
        kind, many = chance.choice(kinds)
        needs = tuple(need(many) for _ in range(chance.randrange(3)))
        openings.append((word, kind, chance.randrange(many), needs))
    return Book(kinds, tuple(openings))


def some_things(book, many, seed):
    """Things of a book of all sizes, the same ones for the same seed."""
    chance = random.Random(seed)
    leaves = ["a", "b", "z", "abcdefgh", "A", "Z", "K9", "Kx", "N1234567", *[kind[0] for kind in book.kinds]]

    def grown(depth):
        if depth == 0 or chance.random() < 0.3:
            return chance.choice(leaves)
        kind, count = chance.choice(book.kinds)
        return (kind, *[grown(depth - 1) for _ in range(count)])

    return [grown(chance.randrange(5)) for _ in range(many)]


def some_row(book, chance, most=4):
    """A row of a few small things, with few names, so that some of them are keys of others."""

    def grown(depth):
        if depth == 0 or chance.random() < 0.35:
            return chance.choice(["a", "K", "L", "N", "S"])
        kind, count = chance.choice(book.kinds)
        return (kind, *[grown(depth - 1) for _ in range(count)])

    return Row(book, tuple(grown(chance.randrange(4)) for _ in range(chance.randrange(most + 1))))


def some_rows(many, seed):
    """Rows over the standard book and others, the same ones for the same seed."""
    chance = random.Random(seed)
    books = [STD, None, AWKWARD, None]
    return [some_row(books[at % 4] or some_book(chance), chance) for at in range(many)]


def asked_things(row):
    """Things of the book of a row, some of which may be had."""
    kind, count = row.book.kinds[0]
    other, many = row.book.kinds[-1]
    pieces = [*row.pieces, "K", "Q", "z"]
    made = [(kind, *[piece] * count) for piece in pieces[:4]] + [(other, *pieces[-many:])]
    return list(dict.fromkeys([*pieces, *made]))


def some_recipe(row, chance, many):
    """A recipe of so many steps, many of which fail or are needless."""
    steps = []
    for at in range(many):
        steps.append(chance.choice([("shown", chance.randrange(len(row))) if len(row) else ("word", "b"), ("word", "a")]))
        named = [("make", kind, count) for kind, count in row.book.kinds]
        named += [("open", told[0], 1 + len(told[3])) for told in row.book.openings] * 3
        if at > 0 and chance.random() < 0.75:
            word, name, count = chance.choice(named)
            steps[at] = (word, name, tuple(chance.randrange(at) for _ in range(count)))
    return tuple(steps)


def changed_row(row, chance):
    """A row over the same book with as many things, much like this one, perhaps alike."""
    choice = chance.randrange(5)
    leaves = ["a", "b", "K", "Q", *row.pieces]

    def grown(thing):
        if chance.random() < 0.15:
            return chance.choice(leaves)
        return (thing[0], *[grown(part) for part in thing[1:]]) if isinstance(thing, tuple) else thing

    if choice == 0:
        names = chance.sample(row.names, len(row.names))
        return row.renamed(tuple(zip(row.names, names)))
    if choice == 1 and row.names:
        return row.replaced(chance.choice(row.names), chance.choice(leaves))
    if choice == 2 and len(row):
        place = chance.randrange(len(row))
        return Row(row.book, (*row.things[:place], chance.choice(leaves), *row.things[place + 1:]))
    if choice == 3:
        return Row(row.book, tuple(grown(thing) for thing in row))
    return row


def some_pairs(many, seed, most=4):
    """Pairs of rows that match, about three of four of them alike, the same ones for the same seed."""
    chance = random.Random(seed)
    books = [STD, None, STD, AWKWARD, None]
    rows = [some_row(books[at % 5] or some_book(chance), chance, most) for at in range(many)]
    return [(row, changed_row(row, chance)) for row in rows]
