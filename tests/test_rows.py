import unittest

from sealedalike.books import Book
from sealedalike.errors import BadRow, BadThing, Mismatch
from sealedalike.rows import Row
from tests import plain
from tests.samples import AWKWARD, RING, ROW, STD, nested, odd_values, some_book, some_rows, some_things

LOCKED = ("lock", ("pair", "a", "N"), "K")
SMALL = Book((("half", 1), ("lock", 2)), ())


class Making(unittest.TestCase):
    def test_attributes(self):
        things = (LOCKED, "a", "K", LOCKED)
        for row in (Row(STD, things), Row(book=STD, things=things)):
            self.assertEqual(sorted(vars(row)), ["book", "names", "pieces", "things"])
            self.assertIs(row.book, STD)
            self.assertEqual(row.things, things)
            self.assertEqual(row.names, ("K", "N"))
            self.assertEqual(row.pieces, ("K", "N", "a", LOCKED, ("pair", "a", "N")))

    def test_without_things(self):
        row = Row(STD, ())
        self.assertEqual((row.things, row.names, row.pieces, len(row), list(row)), ((), (), (), 0, []))

    def test_one_thing_of_each_kind(self):
        things = tuple((kind, *["a", "K"][:many]) for kind, many in STD.kinds)
        row = Row(STD, things)
        self.assertEqual([thing[0] for thing in row], ["half", "lock", "mark", "pair", "seal", "sign"])
        self.assertEqual(row.pieces, ("K", "a", *things))
        self.assertEqual(row.names, ("K",))

    def test_names_and_pieces_against_plain_functions(self):
        for book in (STD, AWKWARD):
            things = some_things(book, 200, 11)
            for at in range(0, 200, 4):
                row = Row(book, tuple(things[at:at + 4]))
                pieces = set().union(*[plain.pieces(thing) for thing in row])
                self.assertEqual(row.pieces, plain.ascending(pieces))
                leaves = [piece for piece in pieces if isinstance(piece, str)]
                self.assertEqual(row.names, tuple(sorted(leaf for leaf in leaves if leaf[0].isupper())))

    def test_pieces_ascend_by_texts(self):
        row = Row(STD, ("paira", ("pair", "Z", "a"), "pair", ("half", ("half", "K0")), "K9", "K10", "half"))
        self.assertEqual(row.pieces, (
            "K0", "K10", "K9", "Z", "a", "half", ("half", "K0"), ("half", ("half", "K0")), "pair",
            ("pair", "Z", "a"), "paira",
        ))
        self.assertEqual(row.names, ("K0", "K10", "K9", "Z"))

    def test_no_tuple(self):
        for value in [*odd_values(), [LOCKED], "K", {"K": True}, ROW]:
            if not isinstance(value, tuple):
                with self.assertRaises(BadRow) as caught:
                    Row(STD, value)
                self.assertEqual(caught.exception.part, "things")

    def test_no_things_of_the_book(self):
        for value in odd_values():
            for things in [value, (value,), ("K", value), (value, "K", value), (value, 1), ("a", 1, value)]:
                if isinstance(things, tuple):
                    wrong = [item for item in things if not STD.is_thing(item)]
                    if wrong:
                        with self.assertRaises(BadThing) as caught:
                            Row(STD, things)
                        self.assertIs(caught.exception.thing, wrong[0])
                    else:
                        self.assertEqual(Row(STD, things).things, things)

    def test_things_of_other_books(self):
        with self.assertRaises(BadThing) as caught:
            Row(SMALL, ("K", ("half", "a"), ("mark", "a"), ("pair", "a", "b")))
        self.assertEqual(caught.exception.thing, ("mark", "a"))
        with self.assertRaises(BadThing) as caught:
            Row(STD, (["lock", "a", "K"], 1))
        self.assertEqual(caught.exception.thing, ["lock", "a", "K"])


class Walking(unittest.TestCase):
    def test_length(self):
        self.assertEqual(len(ROW), 3)
        self.assertEqual(len(Row(STD, ("a", "a", "a", "a"))), 4)

    def test_again_and_again(self):
        for _ in range(3):
            self.assertEqual([thing for thing in ROW], list(ROW.things))
        self.assertEqual(tuple(ROW), ROW.things)

    def test_one_walk_within_another(self):
        seen = [(one, other) for one in ROW for other in ROW]
        self.assertEqual(seen, [(one, other) for one in ROW.things for other in ROW.things])

    def test_a_walk_that_stops(self):
        for thing in ROW:
            self.assertEqual(thing, ROW.things[0])
            break
        self.assertEqual(list(ROW), list(ROW.things))


class Equal(unittest.TestCase):
    def test_rows(self):
        self.assertTrue(ROW == Row(Book(STD.kinds, STD.openings), tuple(list(ROW.things))))
        self.assertFalse(ROW != Row(STD, ROW.things))
        self.assertFalse(ROW == Row(STD, ROW.things[:2]))
        self.assertFalse(ROW == Row(STD, ROW.things[::-1]))
        self.assertFalse(Row(STD, ("a",)) == Row(STD, ("a", "a")))
        self.assertFalse(Row(STD, ("a",)) == Row(SMALL, ("a",)))
        self.assertFalse(Row(STD, ()) == Row(SMALL, ()))
        self.assertFalse(Row(STD, (("half", "a"),)) == Row(STD, (("half", "A"),)))

    def test_no_other_value(self):
        for value in [*odd_values(), ROW.things, list(ROW), str(ROW), vars(ROW), (STD, ROW.things), Row]:
            if not isinstance(value, Row):
                self.assertIs(ROW == value, False)
                self.assertIs(value == ROW, False)
                self.assertIs(ROW != value, True)
                self.assertIs(Row(STD, ()) == value, False)

    def test_deep(self):
        deep = [Row(STD, (nested(1500, leaf, lambda inner: ("half", inner)),)) for leaf in ("K", "K", "L")]
        self.assertTrue(deep[0] == deep[1])
        self.assertFalse(deep[0] == deep[2])


class Joined(unittest.TestCase):
    def test_both(self):
        both = ROW + RING
        self.assertEqual(both, Row(STD, ROW.things + RING.things))
        self.assertEqual(both.names, ("A", "B", "C", "K", "N", "S"))
        self.assertEqual(both.pieces, Row(STD, ROW.things + RING.things).pieces)
        self.assertEqual(ROW + Row(STD, ()), ROW)
        self.assertEqual(Row(STD, ()) + ROW, ROW)
        self.assertEqual(len(ROW + ROW), 6)

    def test_equal_books(self):
        other = Row(Book(STD.kinds, STD.openings), ("a",))
        self.assertEqual((ROW + other).things, (*ROW.things, "a"))

    def test_unlike_books(self):
        for other in (Row(SMALL, ()), Row(SMALL, ("a",)), Row(Book(STD.kinds, ()), ()), Row(AWKWARD, ())):
            for one, another in ((ROW, other), (other, ROW), (Row(STD, ()), other)):
                with self.assertRaises(Mismatch) as caught:
                    one + another
                self.assertEqual(caught.exception.part, "book")

    def test_what_is_joined_stays(self):
        one, other = Row(STD, ("a",)), Row(STD, ("b",))
        self.assertEqual((one + other).things, ("a", "b"))
        self.assertEqual((one.things, other.things), (("a",), ("b",)))
        self.assertEqual(one + other, one + other)


class WithThing(unittest.TestCase):
    def test_things(self):
        for thing in ["a", "K", LOCKED, *some_things(STD, 50, 12)]:
            more = ROW.with_thing(thing)
            self.assertEqual(more, Row(STD, (*ROW.things, thing)))
            self.assertIs(more.book, STD)
        self.assertEqual(Row(STD, ()).with_thing(thing="K").things, ("K",))
        self.assertEqual(len(ROW), 3)

    def test_any_value(self):
        for value in [*odd_values(), [LOCKED], (LOCKED,), ("around", "a"), ("lock", "a")]:
            for row in (ROW, Row(STD, ())):
                with self.assertRaises(BadThing) as caught:
                    row.with_thing(value)
                self.assertIs(caught.exception.thing, value)
                self.assertEqual(ROW.things[2], "S")


class Only(unittest.TestCase):
    def test_places(self):
        self.assertEqual(ROW.only(()), Row(STD, ()))
        self.assertEqual(ROW.only((0, 1, 2)), ROW)
        self.assertEqual(ROW.only(places=(2,)), Row(STD, ("S",)))
        self.assertEqual(ROW.only((0, 2)).things, (ROW.things[0], "S"))
        self.assertEqual(ROW.only((0, 2)).names, ("K", "N", "S"))
        self.assertEqual(Row(STD, ("a", "b", "a")).only((0, 2)).things, ("a", "a"))


class Replaced(unittest.TestCase):
    def test_everywhere(self):
        changed = ROW.replaced("S", ("half", "S"))
        self.assertEqual(changed.things, (LOCKED, ("seal", "K", ("half", ("half", "S"))), ("half", "S")))
        self.assertIs(changed.book, STD)
        changed = ROW.replaced(name="K", thing=LOCKED)
        self.assertEqual(changed.things, (("lock", ("pair", "a", "N"), LOCKED), ("seal", LOCKED, ("half", "S")), "S"))
        self.assertEqual(changed.names, ("K", "N", "S"))
        self.assertEqual(ROW.replaced("S", "a").names, ("K", "N"))
        self.assertEqual(ROW.replaced("S", "a").pieces, Row(STD, ROW.replaced("S", "a").things).pieces)

    def test_names_that_are_not_there(self):
        self.assertEqual(ROW.replaced("Q", "a"), ROW)
        self.assertEqual(ROW.replaced("K1", "a"), ROW)
        self.assertEqual(Row(STD, ()).replaced("Q", "a"), Row(STD, ()))
        self.assertEqual(ROW.replaced("S", "S"), ROW)

    def test_against_a_plain_function(self):
        def changed(thing, name, other):
            if isinstance(thing, str):
                return other if thing == name else thing
            return (thing[0], *[changed(part, name, other) for part in thing[1:]])

        for row in some_rows(100, 13):
            for name in ("K", "S"):
                for other in (("half", "K") if row.book == STD else "b", "L", "a"):
                    wanted = Row(row.book, tuple(changed(thing, name, other) for thing in row))
                    self.assertEqual(row.replaced(name, other), wanted)
                    self.assertIs(row.replaced(name, other).book, row.book)


class Renamed(unittest.TestCase):
    def test_all_at_once(self):
        row = Row(STD, (("pair", "K", "L"), ("lock", "M", "K"), "L"))
        self.assertEqual(row.renamed((("K", "L"), ("L", "K"))).things, (("pair", "L", "K"), ("lock", "M", "L"), "K"))
        turned = row.renamed(pairs=(("L", "M"), ("K", "L"), ("M", "K")))
        self.assertEqual(turned.things, (("pair", "L", "M"), ("lock", "K", "L"), "M"))
        self.assertEqual(turned.names, ("K", "L", "M"))
        self.assertIs(turned.book, STD)

    def test_names_that_are_not_told_stay(self):
        row = Row(STD, (("pair", "K", "K1"), "L"))
        self.assertEqual(row.renamed(()), row)
        self.assertEqual(row.renamed((("Q", "K"),)), row)
        self.assertEqual(row.renamed((("K", "Z"),)).things, (("pair", "Z", "K1"), "L"))
        self.assertEqual(row.renamed((("K", "K"), ("L", "K1"))).things, (("pair", "K", "K1"), "K1"))

    def test_two_names_may_become_one(self):
        row = Row(STD, (("pair", "K", "L"), "M"))
        renamed = row.renamed((("K", "M"), ("L", "M")))
        self.assertEqual((renamed.things, renamed.names), ((("pair", "M", "M"), "M"), ("M",)))

    def test_there_and_back(self):
        pairs = (("K", "Z"), ("L", "Y1"), ("N", "K"), ("S", "L"))
        back = tuple((other, name) for name, other in pairs)
        for row in some_rows(100, 14):
            self.assertEqual(row.renamed(pairs).renamed(back), row)
