import copy
import itertools
import unittest

from sealedalike.books import Book, standard_book
from sealedalike.errors import BadBook
from tests.samples import AWKWARD, STD, nested, odd_values

KINDS = (("half", 1), ("lock", 2), ("trio", 3))
OPENINGS = (("take", "lock", 0, (("part", 1),)),)


class Kinds(unittest.TestCase):
    def bad(self, kinds, openings=()):
        with self.assertRaises(BadBook) as caught:
            Book(kinds, openings)
        self.assertEqual(caught.exception.part, "kinds")

    def test_attributes(self):
        for book in (Book(KINDS, OPENINGS), Book(kinds=KINDS, openings=OPENINGS)):
            self.assertEqual(vars(book), {"kinds": KINDS, "openings": OPENINGS})
        self.assertEqual(vars(Book(KINDS, ())), {"kinds": KINDS, "openings": ()})
        self.assertEqual(vars(Book((("a", 1),), ())), {"kinds": (("a", 1),), "openings": ()})
        self.assertEqual(Book((("a", 1), ("aa", 1), ("b", 3)), ()).kinds[2], ("b", 3))

    def test_any_value(self):
        for value in odd_values():
            self.bad(value)
            if value != ("half", 1):
                self.bad((value,))
            self.bad(((value, 1),))
            self.bad((("half", 1), value))
            if value != 1 or value is True:
                self.bad((("half", value),))

    def test_lists_in_the_place_of_tuples(self):
        self.bad([("half", 1), ("lock", 2)])
        self.bad((["half", 1], ("lock", 2)))
        self.bad((("half", 1), ["lock", 2]))
        self.bad({"half": 1})
        self.bad("half")

    def test_numbers_of_parts(self):
        for many in (0, 4, -1, 10 ** 39, True, False, "1", None, (1,), [1]):
            self.bad((("half", many),))
        for kind in (("half",), ("half", 1, 1), (1, "half"), (), "ab"):
            self.bad((kind,))

    def test_words(self):
        for word in ("", "Half", "abcdefghi", "a1", "a b", "half\n", "A"):
            self.bad(((word, 1),))

    def test_ascending(self):
        self.bad((("lock", 2), ("half", 1)))
        self.bad((("half", 1), ("half", 1)))
        self.bad((("half", 1), ("half", 2)))
        self.bad((("half", 2), ("half", 1)))
        self.bad((("aa", 1), ("a", 1)))
        self.bad((("a", 1), ("c", 1), ("b", 1)))

    def test_kinds_are_named_ahead_of_openings(self):
        for value in odd_values():
            self.bad((), value)
            self.bad([("half", 1)], value)

    def test_what_is_passed_stays(self):
        for value in ([["half", 1]], {"half": [1]}):
            kept = copy.deepcopy(value)
            self.bad(value, value)
            self.assertEqual(value, kept)


class Openings(unittest.TestCase):
    def bad(self, openings, kinds=KINDS):
        with self.assertRaises(BadBook) as caught:
            Book(kinds, openings)
        self.assertEqual(caught.exception.part, "openings")

    def bad_needs(self, *needs):
        self.bad((("take", "lock", 0, needs),))

    def good(self, *openings):
        self.assertEqual(Book(KINDS, openings).openings, openings)

    def test_all_right_needs(self):
        numbers = range(3)
        needs = [("part", number) for number in numbers]
        needs += [("around", "half", number) for number in numbers] + [("inside", number, "half") for number in numbers]
        for given in numbers:
            self.good(("take", "trio", given, ()))
            for need, other in itertools.product(needs, needs):
                self.good(("take", "trio", given, (need,)))
                self.good(("take", "trio", given, (need, other)))
        self.good(("take", "half", 0, (("around", "half", 0),)), ("taken", "half", 0, (("inside", 0, "half"),)))

    def test_any_value(self):
        for value in odd_values():
            if value != () or not isinstance(value, tuple):
                self.bad(value)
                self.bad((("take", "lock", 0, value),))
            self.bad((value,))
            self.bad((OPENINGS[0], value))
            self.bad(((value, "lock", 0, ()),))
            self.bad((("take", value, 0, ()),))
            if value not in (0, 1) or isinstance(value, bool):
                self.bad((("take", "lock", value, ()),))
                self.bad_needs(("part", value))
                self.bad_needs(("around", "half", value))
                self.bad_needs(("inside", value, "half"))
            self.bad_needs(value)
            self.bad_needs(("part", 0), value)
            self.bad_needs((value, 0))
            self.bad_needs((value, "half", 0))
            self.bad_needs((value, 0, "half"))
            self.bad_needs(("around", value, 0))
            self.bad_needs(("inside", 0, value))

    def test_lists_in_the_place_of_tuples(self):
        self.bad([("take", "lock", 0, ())])
        self.bad((["take", "lock", 0, ()],))
        self.bad((("take", "lock", 0, []),))
        self.bad_needs(["part", 1])
        self.bad((("take", "lock", 0, [("part", 1)]),))
        self.bad((("take", "lock", 0, ("part", 1)),))

    def test_words(self):
        for word in ("", "Take", "abcdefghi", "a1", "take ", "half", "lock", "trio"):
            self.bad(((word, "lock", 0, ()),))
        for kind in ("take", "hal", "", "first", "Half"):
            self.bad((("take", kind, 0, ()),))

    def test_numbers_of_parts(self):
        for kind, many in KINDS:
            for number in (-1, many, many + 1, True, False, "0", None, 10 ** 39):
                self.bad((("take", kind, number, ()),))
                for need in (("part", number), ("around", "half", number), ("inside", number, "half")):
                    self.bad((("take", kind, 0, (need,)),))

    def test_needs(self):
        self.bad_needs(("part", 0), ("part", 1), ("part", 0))
        for need in (
            ("part",), ("part", 0, 0), ("part", "half", 0), ("part", 0, "half"), ("Part", 0), ("around", 0),
            ("around", 0, "half"), ("around", "half"), ("around", "half", 0, 0), ("inside", "half", 0), ("inside", 0),
            ("inside", 0, "half", "half"), ("inside", "half"), ("whole", 0), ("", 0), (), ("half", 0), (0, "part"),
        ):
            self.bad_needs(need)

    def test_kinds_of_one_part(self):
        for kind in ("lock", "trio", "take", "none", "Half", ""):
            self.bad_needs(("around", kind, 0))
            self.bad_needs(("inside", 0, kind))

    def test_ascending(self):
        first, second = ("a", "lock", 1, ()), ("b", "half", 0, ())
        self.good(first, second)
        self.bad((second, first))
        self.bad((first, first))
        self.bad((first, ("a", "lock", 1, (("part", 1),))))
        self.bad((("aa", "lock", 1, ()), ("a", "lock", 1, ())))

    def test_number_of_parts_of_an_opening(self):
        self.bad((("take", "lock", 0),))
        self.bad((("take", "lock", 0, (), ()),))
        self.bad((("take", 0, "lock", ()),))


class Equal(unittest.TestCase):
    def test_books(self):
        self.assertTrue(Book(KINDS, OPENINGS) == Book(KINDS, OPENINGS))
        self.assertFalse(Book(KINDS, OPENINGS) != Book(KINDS, OPENINGS))
        self.assertFalse(Book(KINDS, OPENINGS) == Book(KINDS, ()))
        self.assertFalse(Book(KINDS, ()) == Book(KINDS[:2], ()))
        self.assertFalse(Book((("a", 1),), ()) == Book((("a", 2),), ()))
        self.assertTrue(STD == standard_book())

    def test_no_other_value(self):
        for value in [*odd_values(), STD.kinds, (STD.kinds, STD.openings), str(STD), vars(STD), Book]:
            if not isinstance(value, Book):
                self.assertIs(STD == value, False)
                self.assertIs(value == STD, False)
                self.assertIs(STD != value, True)


class Needed(unittest.TestCase):
    def test_examples(self):
        self.assertEqual(STD.needed("unseal", ("seal", "K", ("half", "S"))), ("S",))
        self.assertIsNone(STD.needed("unseal", ("seal", "K", "S")))
        self.assertEqual(STD.needed("signed", ("sign", "a", "S")), (("half", "S"),))

    def test_no_needs(self):
        for opening, thing in (("first", ("pair", "a", "b")), ("second", ("pair", "a", "b")), ("shown", ("sign", "a", "S"))):
            self.assertEqual(STD.needed(opening, thing), ())

    def test_part(self):
        self.assertEqual(STD.needed("open", ("lock", "a", "K")), ("K",))
        self.assertEqual(STD.needed(thing=("lock", "a", ("pair", "b", "K")), opening="open"), (("pair", "b", "K"),))

    def test_inside_finds_a_thing_of_this_kind_alone(self):
        for part in ("half", "half(S)", "N", ("mark", "S"), ("pair", ("half", "S"), "a"), ("lock", "half", "S")):
            self.assertIsNone(STD.needed("unseal", ("seal", ("half", "S"), part)))
        self.assertEqual(STD.needed("unseal", ("seal", "a", ("half", ("half", "S")))), (("half", "S"),))

    def test_a_word_that_begins_as_a_kind_is_called(self):
        for word in ("h", "hello", "half"):
            self.assertIsNone(AWKWARD.needed("d", ("part", word)))
        self.assertEqual(AWKWARD.needed("d", ("part", ("h", "hello"))), ("hello",))

    def test_two_needs_in_order(self):
        thing = ("opening", ("part", "A"), "b", "C")
        self.assertEqual(AWKWARD.needed("a", thing), ("A", ("part", "b")))
        self.assertIsNone(AWKWARD.needed("a", ("opening", "A", "b", "C")))
        self.assertEqual(AWKWARD.needed("c", ("opening", "a", ("around", "B"), "C")), (("around", "C"), "B"))
        self.assertIsNone(AWKWARD.needed("c", ("opening", ("around", "B"), "b", "C")))
        self.assertEqual(AWKWARD.needed("b", ("inside", "a", "B")), ("B", "B"))
        self.assertEqual(AWKWARD.needed("e", ("h", "a")), ())

    def test_deep(self):
        key = nested(100, "K", lambda inner: ("half", inner))
        self.assertEqual(STD.needed("unseal", ("seal", "a", ("half", key))), (key,))
