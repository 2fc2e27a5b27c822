"""Books, things and values of all kinds that several tests use."""

import random

from sealedalike.books import Book, standard_book
from sealedalike.errors import BadThing, NothingToUndo, SealError

STD = standard_book()
STD_TEXT = """kind half 1
kind lock 2
kind mark 1
kind pair 2
kind seal 2
kind sign 2
opening first pair 0
opening open lock 0 part 1
opening second pair 1
opening shown sign 0
opening signed sign 0 around half 1
opening unseal seal 0 inside 1 half"""

# Kinds and openings that are called as the words of lines and needs are, and kinds of one letter.
AWKWARD = Book(
    (("around", 1), ("h", 1), ("inside", 2), ("kind", 1), ("opening", 3), ("part", 1)),
    (
        ("a", "opening", 2, (("inside", 0, "part"), ("around", "part", 1))),
        ("b", "inside", 1, (("part", 1), ("part", 1))),
        ("c", "opening", 0, (("around", "around", 2), ("inside", 1, "around"))),
        ("d", "part", 0, (("inside", 0, "h"),)),
        ("e", "h", 0, ()),
    ),
)


def nested(times, inner, wrap):
    """What comes of wrapping a value so many times."""
    for _ in range(times):
        inner = wrap(inner)
    return inner


def odd_values():
    """Values that are no words, names, things, books or texts, whatever the book."""
    return [
        None, True, False, 0, 1, -1, 10 ** 39, -(10 ** 39),
        (), [], {}, ("",), ((),), ([],), ({},), (None,), (1,), (True,), ("a",), ("A",),
        ["a"], ["half", "a"], {"a": 1}, {"half": "a"}, [("half", "a")],
        "", " ", "a ", " a", "a\n", "\na", "aB", "Aa_", "a1", "1", "1a", "abcdefghi", "A12345678", "AB",
        "half(", "half)", "(", ")", ",", "()", "a,b", "half()", "Half(a)", "half(a)\n", "half (a)", "half(a,)",
        "a" * 4000, "A" * 4000, "(" * 200, "half(" * 200, "\n" * 4000, "~", "a~",
        (1, "a"), (True, "a"), (None, "a"), ([], "a"), ({}, "a"), ((), "a"), (("half",), "a"), (STD, "a"),
        ("A", "a"), ("", "a"), ("a" * 9, "a"), ("nokind", "a"), ("half", 1), ("half", None), ("half", ["half", "a"]),
        ("half", ("half", ("half", True))), ("half", ""), ("half", "a b"), ("half", STD), ("half",),
        ("half", "a", "b"), ("lock", "a"), ("lock", "a", "K", "K"), ("lock", "a", ["K"]), ["lock", "a", "K"],
        STD, AWKWARD, SealError(), BadThing(["a"]), NothingToUndo(),
        nested(40, "a", lambda inner: [inner]), nested(40, "a", lambda inner: (inner,)),
        nested(40, "a", lambda inner: {"half": inner}), nested(40, [], lambda inner: ("half", inner)),
        nested(13, "A b", lambda inner: ("pair", inner, inner)), ("half", *["a"] * 19000), ("half", ["a"] * 19000),
    ]


def some_things(book, many, seed):
    """Things of a book of all sizes, the same ones for the same seed."""
    chance = random.Random(seed)
    leaves = ["a", "b", "z", "abcdefgh", "A", "Z", "K9", "Kx", "N1234567", *[kind[0] for kind in book.kinds]]

    def grown(depth):
        if depth == 0 or chance.random() < 0.3:
            return chance.choice(leaves)
        kind, count = chance.choice(book.kinds)
        return (kind, *[grown(depth - 1) for _ in range(count)])

    return [grown(chance.randrange(5)) for _ in range(many)]
