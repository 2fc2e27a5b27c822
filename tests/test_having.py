import unittest

from sealedalike.books import Book
from sealedalike.errors import Mismatch
from sealedalike.having import basis, got_things, had_pieces, has_all, is_had
from sealedalike.rows import Row
from tests import plain
from tests.samples import AWKWARD, RING, ROW, STD, asked_things, nested, odd_values, some_rows

LOCKED = ("lock", ("pair", "a", "N"), "K")
SEALED = ("seal", "K", ("half", "S"))


def row_of(*things):
    return Row(STD, things)


class Got(unittest.TestCase):
    def test_example(self):
        self.assertEqual(got_things(ROW), (LOCKED, SEALED, "S", "K", ("pair", "a", "N"), "a", "N"))
        self.assertEqual(got_things(row=ROW), got_things(ROW))

    def test_rows_without_things(self):
        self.assertEqual(got_things(row_of()), ())

    def test_things_shown_twice(self):
        self.assertEqual(got_things(row_of("K", "a", "K", "a")), ("K", "a"))
        self.assertEqual(got_things(row_of(LOCKED, LOCKED)), (LOCKED,))

    def test_the_first_thing_comes_first_again(self):
        # With K got, the first thing is looked at again ahead of those behind it.
        pair = ("pair", "K", "b")
        self.assertEqual(got_things(row_of(("lock", "M", "K"), pair)), (("lock", "M", "K"), pair, "K", "M", "b"))
        self.assertEqual(got_things(row_of(pair, ("lock", "M", "K"))), (pair, ("lock", "M", "K"), "K", "b", "M"))

    def test_openings_in_their_order(self):
        book = Book((("box", 3),), (("a", "box", 2, ()), ("b", "box", 0, (("part", 2),)), ("c", "box", 1, ())))
        self.assertEqual(got_things(Row(book, (("box", "X", "Y", "Z"),))), (("box", "X", "Y", "Z"), "Z", "X", "Y"))

    def test_parts_that_are_made_already_are_got(self):
        row = row_of("K", ("pair", ("half", "K"), "a"))
        self.assertEqual(got_things(row), ("K", ("pair", ("half", "K"), "a"), ("half", "K"), "a"))

    def test_parts_that_are_got_already_are_not_got_again(self):
        self.assertEqual(got_things(row_of(("pair", "K", "K"), "K")), (("pair", "K", "K"), "K"))
        self.assertEqual(got_things(row_of(("sign", "a", "S"), ("half", "S"))), (("sign", "a", "S"), ("half", "S"), "a"))

    def test_needed_things_that_are_made(self):
        key = ("pair", "K", "b")
        row = row_of(("lock", "N", key), "K")
        self.assertEqual(got_things(row), (("lock", "N", key), "K", "N"))
        self.assertEqual(got_things(row_of(("lock", "N", key), "M")), (("lock", "N", key), "M"))
        self.assertEqual(got_things(row_of(("lock", "N", "b"))), (("lock", "N", "b"), "N"))
        book = Book((("half", 1), ("sign", 2)), (("signed", "sign", 0, (("around", "half", 1),)),))
        signed = ("sign", "N", "S")
        self.assertEqual(got_things(Row(book, (signed, "S"))), (signed, "S", "N"))
        self.assertEqual(got_things(Row(book, (signed, ("half", "S")))), (signed, ("half", "S"), "N"))
        self.assertEqual(got_things(Row(book, (signed,))), (signed,))

    def test_an_inside_that_finds_nothing(self):
        for part in ("S", ("mark", "S"), "half", ("pair", "S", "S")):
            row = row_of(("seal", "K", part), "S", ("half", "S"))
            self.assertEqual(got_things(row)[:3], row.things)
            self.assertNotIn("K", got_things(row))

    def test_locks_within_locks(self):
        inner = ("lock", "N", "A")
        outer = ("lock", inner, "B")
        self.assertEqual(got_things(row_of(outer, "A")), (outer, "A"))
        self.assertEqual(got_things(row_of(outer, "B")), (outer, "B", inner))
        self.assertEqual(got_things(row_of(outer, "A", "B")), (outer, "A", "B", inner, "N"))

    def test_locks_in_a_ring(self):
        self.assertEqual(got_things(RING), RING.things)
        first, second, third = RING.things
        pair = ("pair", "B", "C")
        self.assertEqual(got_things(RING.with_thing("A")), (*RING.things, "A", pair, "B", "C"))
        self.assertEqual(got_things(RING.with_thing("B")), (*RING.things, "B", "C", "A", pair))
        self.assertEqual(got_things(row_of(third, "C", second, first)), (third, "C", second, first, "A", pair, "B"))
        own = ("lock", "K", "K")
        self.assertEqual(got_things(row_of(own)), (own,))

    def test_against_a_plain_function(self):
        for row in some_rows(600, 41):
            self.assertEqual(got_things(row), plain.got(row), row.things)

    def test_long_chains(self):
        names = [f"K{at}" for at in range(10)]
        locks = tuple(("lock", other, name) for name, other in zip(names, names[1:]))
        row = row_of(*locks[::-1], "K0")
        self.assertEqual(got_things(row), (*row.things, *names[1:]))
        deep = row_of(nested(400, "N", lambda inner: ("pair", "a", inner)))
        self.assertEqual(got_things(deep)[-1], "N")
        self.assertEqual(len(got_things(deep)), 402)


class Bases(unittest.TestCase):
    def test_example(self):
        self.assertEqual(basis(ROW), ("K", "N", "S"))
        self.assertEqual(basis(row=ROW), basis(ROW))

    def test_edges(self):
        self.assertEqual(basis(row_of()), ())
        self.assertEqual(basis(row_of("a", "lock", ("half", "a"))), ())
        self.assertEqual(basis(row_of("K", "K")), ("K",))
        self.assertEqual(basis(row_of(("lock", "a", "K"))), (("lock", "a", "K"),))
        self.assertEqual(basis(row_of(("lock", "a", "K"), "K")), ("K",))
        self.assertEqual(basis(RING), tuple(sorted(RING.things, key=plain.text)))
        self.assertEqual(basis(row_of(("mark", "K"), ("pair", "a", ("half", "S")))), (("half", "S"), ("mark", "K")))
        self.assertEqual(basis(row_of(("half", ("half", "S")), ("half", "S"))), (("half", "S"),))

    def test_ascending_by_texts(self):
        row = row_of(("mark", "K"), "Z", ("half", "K"), "A9", ("lock", "a", "K"), "A10")
        self.assertEqual(basis(row), ("A10", "A9", "Z", ("half", "K"), ("lock", "a", "K"), ("mark", "K")))

    def test_against_a_plain_function(self):
        for row in some_rows(600, 42):
            self.assertEqual(basis(row), plain.basis(row), row.things)


class Had(unittest.TestCase):
    def test_example(self):
        for thing in ("N", "K", "S", "a", "zzz", ("half", "S"), ("pair", "N", ("mark", "K")), LOCKED, SEALED):
            self.assertIs(is_had(ROW, thing), True)
        for thing in ("Q", ("half", "Q"), ("pair", "a", ("pair", "a", "Q")), "N1"):
            self.assertIs(is_had(ROW, thing), False)
        self.assertIs(is_had(row=ROW, thing="N"), True)

    def test_rows_without_things(self):
        self.assertIs(is_had(row_of(), "a"), True)
        self.assertIs(is_had(row_of(), ("pair", "a", "b")), True)
        self.assertIs(is_had(row_of(), "A"), False)

    def test_parts_of_had_things(self):
        row = row_of(("pair", ("mark", "K"), "a"), ("half", "S"))
        self.assertIs(is_had(row, ("mark", "K")), True)
        self.assertIs(is_had(row, "K"), False)
        self.assertIs(is_had(row, ("mark", ("mark", "K"))), True)
        self.assertIs(is_had(row, ("half", "S")), True)
        self.assertIs(is_had(row, "S"), False)

    def test_any_value(self):
        for value in odd_values():
            self.assertIs(is_had(ROW, value), False)
            self.assertIs(is_had(ROW, ("half", value)), False)
        for value in (["a"], ("around", "a"), ("lock", "a"), ["half", "a"], ROW, STD, ("shown", 0)):
            self.assertIs(is_had(ROW, value), False)

    def test_against_a_plain_function(self):
        for row in some_rows(300, 43):
            for thing in asked_things(row):
                self.assertIs(is_had(row, thing), plain.had(row, thing), (row.things, thing))

    def test_deep(self):
        deep = nested(400, "K", lambda inner: ("half", inner))
        self.assertIs(is_had(row_of("K"), deep), True)
        self.assertIs(is_had(row_of("L"), deep), False)
        self.assertIs(is_had(row_of(("lock", "N", deep), "K"), "N"), True)


class HadPieces(unittest.TestCase):
    def test_example(self):
        self.assertEqual(had_pieces(ROW), ("K", "N", "S", "a", ("half", "S"), LOCKED, ("pair", "a", "N"), SEALED))
        self.assertEqual(had_pieces(row=ROW), ROW.pieces)

    def test_edges(self):
        self.assertEqual(had_pieces(row_of()), ())
        self.assertEqual(had_pieces(RING), tuple(sorted(RING.things, key=plain.text)))
        self.assertEqual(had_pieces(row_of(("lock", "a", "K"))), ("a", ("lock", "a", "K")))
        self.assertEqual(had_pieces(row_of(("lock", ("pair", "a", "b"), "K"))), (
            "a", "b", ("lock", ("pair", "a", "b"), "K"), ("pair", "a", "b"),
        ))

    def test_against_a_plain_function(self):
        for row in some_rows(400, 44):
            self.assertEqual(had_pieces(row), tuple(piece for piece in row.pieces if plain.had(row, piece)))


class HasAll(unittest.TestCase):
    def test_rows(self):
        self.assertIs(has_all(ROW, row_of("N", ("pair", "K", "S"), "b")), True)
        self.assertIs(has_all(row_of("N", ("pair", "K", "S")), ROW), True)
        self.assertIs(has_all(row_of("N", "K"), ROW), False)
        self.assertIs(has_all(row=ROW, other=row_of("Q")), False)
        self.assertIs(has_all(row_of(), row_of()), True)
        self.assertIs(has_all(row_of(), row_of("a", ("half", "a"))), True)
        self.assertIs(has_all(row_of(), row_of("A")), False)
        self.assertIs(has_all(ROW, row_of()), True)

    def test_what_stands_within(self):
        self.assertIs(has_all(row_of(("lock", "N", "K")), row_of("N")), False)
        self.assertIs(has_all(row_of("N"), row_of(("lock", "N", "K"))), False)
        self.assertIs(has_all(row_of("N", "K"), row_of(("lock", "N", "K"))), True)

    def test_books(self):
        equal = Book(STD.kinds, STD.openings)
        self.assertIs(has_all(ROW, Row(equal, ("N",))), True)
        for book in (AWKWARD, Book(STD.kinds, ()), Book(STD.kinds[:1], ())):
            for one, other in ((ROW, Row(book, ())), (Row(book, ("a",)), ROW), (row_of(), Row(book, ("Q",)))):
                with self.assertRaises(Mismatch) as caught:
                    has_all(one, other)
                self.assertEqual(caught.exception.part, "book")

    def test_against_plain_functions(self):
        rows = [row for row in some_rows(240, 45) if row.book == STD]
        answers = []
        for row in rows:
            for other in rows[:12]:
                wanted = all(plain.had(row, thing) for thing in plain.basis(other))
                answers.append(has_all(row, other))
                self.assertIs(answers[-1], wanted)
                self.assertIs(has_all(row, other), all(is_had(row, thing) for thing in got_things(other)))
        self.assertTrue(50 < answers.count(True) < len(answers) - 50)
