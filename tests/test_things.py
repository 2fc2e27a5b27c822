import copy
import itertools
import re
import unittest

from sealedalike.books import Book
from sealedalike.errors import BadThing
from sealedalike.things import (
    is_name, is_word, names_in, pieces_of, replaced, size_of, text_of, words_in,
)
from tests.samples import AWKWARD, STD, nested, odd_values, some_things

LOCKED = ("lock", ("pair", "a", "N"), "K")


def plain_text(thing):
    return thing if isinstance(thing, str) else f"{thing[0]}({','.join(plain_text(part) for part in thing[1:])})"


def plain_pieces(thing):
    if isinstance(thing, str):
        return [thing]
    return [thing] + [piece for part in thing[1:] for piece in plain_pieces(part)]


def plain_replaced(thing, name, other):
    if isinstance(thing, str):
        return other if thing == name else thing
    return (thing[0],) + tuple(plain_replaced(part, name, other) for part in thing[1:])


def is_text(text):
    """Whether this is a text over the kinds a (one part) and b (two): whole things become # until none is left."""
    leaf = "(?:[a-z]{1,8}|[A-Z][a-z0-9]{0,7}|#)"
    whole = rf"(?<![A-Za-z0-9#])(?:a\({leaf}\)|b\({leaf},{leaf}\))"
    while re.search(whole, text):
        text = re.sub(whole, "#", text)
    return bool(re.fullmatch(leaf, text))


class WordsAndNames(unittest.TestCase):
    def test_words(self):
        for word in ("a", "z", "lock", "abcdefgh", "zzzzzzzz"):
            self.assertIs(is_word(word), True)
            self.assertIs(is_name(word), False)
        for other in ("", "A", "aB", "Ab", "abcdefghi", "a1", "1", "a b", "a\n", "`", "{", "a-", "\u00e4", "\u00aa"):
            self.assertIs(is_word(other), False, other)

    def test_names(self):
        for name in ("A", "Z", "Ab", "K9", "K0", "A1234567", "Nabcdefg", "Za0z9"):
            self.assertIs(is_name(name), True)
            self.assertIs(is_word(name), False)
        for other in ("", "a", "AB", "aB", "A12345678", "1A", "A ", "A\n", "@", "[", "A_", "A/", "A:", "A\u00b2"):
            self.assertIs(is_name(other), False, other)

    def test_any_value(self):
        for value in odd_values():
            self.assertIs(is_word(value), isinstance(value, str) and bool(re.fullmatch("[a-z]{1,8}", value)))
            self.assertIs(is_name(value), isinstance(value, str) and bool(re.fullmatch("[A-Z][a-z0-9]{0,7}", value)))

    def test_all_signs(self):
        for sign in map(chr, [10, *range(32, 127)]):
            self.assertIs(is_word(sign), bool(re.fullmatch("[a-z]", sign)))
            self.assertIs(is_word(f"a{sign}"), bool(re.fullmatch("[a-z]", sign)))
            self.assertIs(is_name(sign), bool(re.fullmatch("[A-Z]", sign)))
            self.assertIs(is_name(f"A{sign}"), bool(re.fullmatch("[a-z0-9]", sign)))

    def test_by_name(self):
        self.assertIs(is_word(thing="a"), True)
        self.assertIs(is_name(thing="A"), True)


class IsThing(unittest.TestCase):
    def test_things(self):
        for book in (STD, AWKWARD):
            for thing in ["a", "A", "half", "N1234567", *some_things(book, 200, 1)]:
                self.assertIs(book.is_thing(thing), True)
        self.assertIs(STD.is_thing(thing=LOCKED), True)

    def test_any_value(self):
        for value in odd_values():
            self.assertIs(STD.is_thing(value), False, repr(value)[:80])

    def test_kinds_of_other_books(self):
        self.assertIs(STD.is_thing(("h", "a")), False)
        self.assertIs(AWKWARD.is_thing(("h", "a")), True)
        self.assertIs(AWKWARD.is_thing(("h", ("half", "a"))), False)
        self.assertIs(STD.is_thing(("first", "a")), False)

    def test_one_wrong_piece_anywhere(self):
        for thing in some_things(STD, 60, 2):
            for wrong in (1, None, True, ["a"], "", ("half",), ("half", "a", "b"), (["half"], "a"), STD):
                if "N1234567" in plain_pieces(thing):
                    self.assertIs(STD.is_thing(plain_replaced(thing, "N1234567", wrong)), False)
                self.assertIs(STD.is_thing(("pair", thing, wrong)), False)
                self.assertIs(STD.is_thing(("pair", wrong, thing)), False)

    def test_deep(self):
        for times in (12, 40, 199):
            self.assertIs(STD.is_thing(nested(times, "a", lambda inner: ("half", inner))), True)
            self.assertIs(STD.is_thing(nested(times, 1, lambda inner: ("half", inner))), False)


class Texts(unittest.TestCase):
    def test_example(self):
        self.assertEqual(text_of(LOCKED), "lock(pair(a,N),K)")
        self.assertEqual(size_of(LOCKED), 5)

    def test_words_and_names(self):
        for thing in ("a", "half", "A", "K9"):
            self.assertEqual(text_of(thing), thing)
            self.assertEqual(size_of(thing), 1)
            self.assertEqual(pieces_of(thing), (thing,))

    def test_against_plain_functions(self):
        for book in (STD, AWKWARD):
            for thing in some_things(book, 400, 3):
                pieces = plain_pieces(thing)
                texts = {plain_text(piece): piece for piece in pieces}
                self.assertEqual(text_of(thing), plain_text(thing))
                self.assertEqual(size_of(thing), len(pieces))
                self.assertEqual(pieces_of(thing), tuple(texts[text] for text in sorted(texts)))
                leaves = sorted({piece for piece in pieces if isinstance(piece, str)})
                self.assertEqual(names_in(thing), tuple(leaf for leaf in leaves if leaf[0].isupper()))
                self.assertEqual(words_in(thing), tuple(leaf for leaf in leaves if leaf[0].islower()))

    def test_order_of_pieces_is_that_of_texts(self):
        thing = ("pair", ("pair", "paira", ("pair", "Z", "a")), ("pair", "pair", ("half", "K0")))
        self.assertEqual(pieces_of(thing), (
            "K0", "Z", "a", ("half", "K0"), "pair", ("pair", "Z", "a"), thing, ("pair", "pair", ("half", "K0")),
            ("pair", "paira", ("pair", "Z", "a")), "paira",
        ))

    def test_pieces_that_stand_twice(self):
        thing = ("pair", ("half", "K"), ("pair", "K", ("half", "K")))
        self.assertEqual(size_of(thing), 7)
        self.assertEqual(pieces_of(thing), ("K", ("half", "K"), ("pair", "K", ("half", "K")), thing))
        self.assertEqual(names_in(thing), ("K",))
        self.assertEqual(words_in(thing), ())

    def test_kinds_are_no_words_in_a_thing(self):
        self.assertEqual(words_in(("half", "N")), ())
        self.assertEqual(words_in(("half", "half")), ("half",))
        self.assertEqual(names_in(("half", "half")), ())

    def test_three_parts(self):
        thing = ("opening", "a", ("part", "B"), ("opening", "c", "D", "e"))
        self.assertEqual(text_of(thing), "opening(a,part(B),opening(c,D,e))")
        self.assertEqual(size_of(thing), 8)
        self.assertEqual(names_in(thing), ("B", "D"))
        self.assertEqual(words_in(thing), ("a", "c", "e"))

    def test_deep(self):
        thing = nested(300, "K", lambda inner: ("half", inner))
        self.assertEqual(text_of(thing), "half(" * 300 + "K" + ")" * 300)
        self.assertEqual(size_of(thing), 301)
        self.assertEqual(len(pieces_of(thing)), 301)
        self.assertEqual(text_of(replaced(thing, "K", thing)), "half(" * 600 + "K" + ")" * 600)

    def test_by_name(self):
        for called in (text_of, pieces_of, size_of, names_in, words_in):
            self.assertEqual(called(thing=LOCKED), called(LOCKED))


class Replaced(unittest.TestCase):
    def test_everywhere(self):
        thing = ("pair", "X", ("lock", ("half", "X"), "Y"))
        self.assertEqual(replaced(thing, "X", "m"), ("pair", "m", ("lock", ("half", "m"), "Y")))
        self.assertEqual(replaced(thing, name="Z", other="m"), thing)
        self.assertEqual(replaced("X", "X", thing), thing)
        self.assertEqual(replaced(thing="x", name="X", other="y"), "x")

    def test_only_once(self):
        thing = ("pair", "X", "Y")
        other = ("pair", "Y", "X")
        self.assertEqual(replaced(thing, "X", other), ("pair", other, "Y"))
        self.assertEqual(replaced(thing, "Y", "X"), ("pair", "X", "X"))

    def test_names_that_begin_alike(self):
        self.assertEqual(replaced(("pair", "K", "K1"), "K", "a"), ("pair", "a", "K1"))
        self.assertEqual(replaced(("pair", "K", "K1"), "K1", "a"), ("pair", "K", "a"))

    def test_against_a_plain_function(self):
        things = some_things(STD, 300, 4)
        for thing, other in zip(things, reversed(things)):
            for name in ("A", "K9", "N1234567"):
                self.assertEqual(replaced(thing, name, other), plain_replaced(thing, name, other))


class ReadThing(unittest.TestCase):
    def bad(self, book, value):
        kept = copy.deepcopy(value) if isinstance(value, (list, dict)) else value
        with self.assertRaises(BadThing) as caught:
            book.read_thing(value)
        self.assertIs(caught.exception.thing, value)
        if isinstance(value, (list, dict)):
            self.assertEqual(value, kept)

    def test_texts_are_read(self):
        for book in (STD, AWKWARD):
            for thing in ["a", "A", "half", LOCKED, *some_things(book, 400, 5)]:
                if book.is_thing(thing):
                    self.assertEqual(book.read_thing(text_of(thing)), thing)
        self.assertEqual(STD.read_thing(text="lock(pair(a,N),K)"), LOCKED)

    def test_any_other_value(self):
        for value in odd_values():
            self.bad(STD, value)
        for thing in (LOCKED, ("half", "a"), ["a"]):
            self.bad(STD, thing)

    def test_wrong_texts(self):
        for text in (
            "lock(a)", "lock(a,b,c)", "lock(a,b", "lock(a,b))", "(a,b)", "lock a,b", "lock((a,b))", "lock(a,,b)",
            "lock(,a)", "lock(a,b),", ",lock(a,b)", "lock(a,b)lock(a,b)", "lock(a,b)(a,b)", "lock(a,b)c", "clock(a,b)",
            "lock(a, b)", "lock(a,b) ", "lock(a\n,b)", "lock(a,b)\n", "LOCK(a,b)", "Lock(a,b)", "lock[a,b]",
            "lock(a,abcdefghi)", "lock(a,Bc1_)", "lock(a,1)", "nokind(a)", "h(a)", "first(a,b)", "A(a)", "half(half(a)",
            "half(a)b)", "half(a(b))", "half((a))", "((a))", "(a)", "a()", "()a", "half)a(", "half(a,b)", ",", ",,", "a,",
        ):
            self.bad(STD, text)

    def test_all_short_strings(self):
        book = Book((("a", 1), ("b", 2)), ())
        short = [signs for length in range(7) for signs in itertools.product("abK(),", repeat=length)]
        longer = [("b", "(", *signs) for signs in itertools.product("abK(),", repeat=6)]
        many = 0
        for signs in short + longer:
            text = "".join(signs)
            if is_text(text):
                many += 1
                self.assertEqual(plain_text(book.read_thing(text)), text)
            else:
                self.bad(book, text)
        self.assertGreater(many, 300)

    def test_many_brackets(self):
        for times in (40, 199, 200):
            text = "half(" * times + "a" + ")" * times
            self.assertEqual(STD.read_thing(text), nested(times, "a", lambda inner: ("half", inner)))
            for wrong in (text[:-1], f"{text})", text[1:], "half(" * times, "(" * times + ")" * times, "(" * times):
                self.bad(STD, wrong)
        left = nested(100, "K", lambda inner: ("pair", inner, "a"))
        self.assertEqual(STD.read_thing(text_of(left)), left)

    def test_all_changes_of_one_sign(self):
        text = "lock(pair(a,N),K)"
        for at in range(len(text) + 1):
            for sign in " (),aK0\n":
                for changed in (text[:at] + sign + text[at:], text[:at] + sign + text[at + 1:], text[:at] + text[at + 1:]):
                    try:
                        thing = STD.read_thing(changed)
                    except BadThing:
                        self.bad(STD, changed)
                    else:
                        self.assertIs(STD.is_thing(thing), True)
                        self.assertEqual(plain_text(thing), changed)
