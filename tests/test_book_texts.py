import random
import unittest

from sealedalike.books import Book, standard_book
from sealedalike.errors import BadText
from tests.samples import AWKWARD, STD, STD_TEXT, odd_values, some_book

AWKWARD_TEXT = """kind around 1
kind h 1
kind inside 2
kind kind 1
kind opening 3
kind part 1
opening a opening 2 inside 0 part around part 1
opening b inside 1 part 1 part 1
opening c opening 0 around around 2 inside 1 around
opening d part 0 inside 0 h
opening e h 0"""


class Texts(unittest.TestCase):
    def test_standard_book(self):
        self.assertEqual(str(STD), STD_TEXT)
        self.assertEqual(STD.kinds, (("half", 1), ("lock", 2), ("mark", 1), ("pair", 2), ("seal", 2), ("sign", 2)))
        self.assertEqual(STD.openings, (
            ("first", "pair", 0, ()), ("open", "lock", 0, (("part", 1),)), ("second", "pair", 1, ()),
            ("shown", "sign", 0, ()), ("signed", "sign", 0, (("around", "half", 1),)),
            ("unseal", "seal", 0, (("inside", 1, "half"),)),
        ))
        self.assertEqual(standard_book(), Book.read(STD_TEXT))

    def test_read(self):
        self.assertEqual(Book.read(text=STD_TEXT), STD)
        self.assertEqual(Book.read(AWKWARD_TEXT), AWKWARD)
        self.assertEqual(str(AWKWARD), AWKWARD_TEXT)
        self.assertEqual(Book.read("kind a 3"), Book((("a", 3),), ()))
        self.assertEqual(str(Book((("a", 3),), ())), "kind a 3")
        self.assertIsInstance(Book.read("kind a 1"), Book)

    def test_there_and_back(self):
        chance = random.Random(6)
        for _ in range(300):
            book = some_book(chance)
            self.assertEqual(vars(Book.read(str(book))), vars(book))


class WrongTexts(unittest.TestCase):
    def bad(self, text, line):
        with self.assertRaises(BadText) as caught:
            Book.read(text)
        self.assertEqual(caught.exception.line, line, repr(text)[:200])
        self.assertNotIsInstance(caught.exception.line, bool)

    def bad_line(self, number, line):
        """The standard text with another line in the place of one (from 1 on)."""
        lines = STD_TEXT.split("\n")
        self.bad("\n".join([*lines[:number - 1], line, *lines[number:]]), number)

    def test_any_value(self):
        for value in odd_values():
            self.bad(value, 1 if isinstance(value, str) else 0)
        self.bad([STD_TEXT], 0)
        self.bad((STD_TEXT,), 0)
        self.bad(STD, 0)

    def test_line_feeds(self):
        self.bad("", 1)
        self.bad("\n", 1)
        self.bad(f"\n{STD_TEXT}", 1)
        self.bad(f"{STD_TEXT}\n", 13)
        self.bad(f"{STD_TEXT}\n\n", 13)
        self.bad("kind a 1\n", 2)
        self.bad("kind a 1\n\nkind b 1", 2)
        self.bad(STD_TEXT.replace("\n", ";"), 1)
        self.bad(STD_TEXT.replace("\n", "\r\n"), 1)

    def test_lines_left_out(self):
        lines = STD_TEXT.split("\n")
        # Of each line: the first one that is at odds with what is left if it is not there.
        first_wrong = [10, 7, None, 6, 11, 9, None, None, None, None, None, None]
        for at, wrong in enumerate(first_wrong):
            text = "\n".join(lines[:at] + lines[at + 1:])
            if wrong is None:
                self.assertEqual(str(Book.read(text)), text)
            else:
                self.bad(text, wrong)

    def test_lines_twice_exchanged_or_empty(self):
        lines = STD_TEXT.split("\n")
        for at in range(len(lines)):
            self.bad("\n".join(lines[:at + 1] + lines[at:]), at + 2)
            self.bad("\n".join(lines[:at] + [""] + lines[at:]), at + 1)
            self.bad("\n".join(lines[:at] + [""] + lines[at + 1:]), at + 1)
            if at > 0:
                text = "\n".join([*lines[:at - 1], lines[at], lines[at - 1], *lines[at + 1:]])
                self.bad(text, at + 1)

    def test_openings_alone(self):
        self.bad("opening first pair 0", 1)
        self.bad("opening first pair 0\nkind pair 2", 1)
        self.bad("\n".join(STD_TEXT.split("\n")[6:]), 1)

    def test_a_kind_behind_an_opening(self):
        self.bad(f"{STD_TEXT}\nkind zoo 1", 13)
        self.bad("kind a 1\nopening b a 0\nkind c 1\nopening", 3)

    def test_kind_lines(self):
        for line in (
            "kind half 0", "kind half 4", "kind half 01", "kind half +1", "kind half -1", "kind half 1.", "kind half",
            "kind half 1 1", "kind  half 1", "kind half  1", " kind half 1", "kind half 1 ", "kind half 1,", "kind 1 half",
            "Kind half 1", "kind Half 1", "kind abcdefghi 1", "kind half one", "kind half 10", "kind  1", "kind 1",
            "kind", "half 1", "kinds half 1", "kind half True", "kind half 1\t", "kind half1", "", " ", "kind half 1;",
            "kind a1 1", "kind half x", "opening half 1", "kind 1 1",
        ):
            self.bad_line(1, line)
        self.bad_line(2, "kind half 2")
        self.bad_line(2, "kind half 1")
        self.bad_line(2, "kind hal 1")
        self.bad_line(6, "kind seal 2")

    def test_opening_lines(self):
        for line in (
            "opening open lock 2 part 1", "opening open lock 00 part 1", "opening open lock +0 part 1",
            "opening open lock -0 part 1", "opening open lock 0 part 2", "opening open lock 0 part 01",
            "opening open lock 0 part +1", "opening open lock 0 part", "opening open lock 0 1", "opening open lock",
            "opening open", "opening", "opening open lock part 1", "opening open 0 lock part 1", "opening open lock 0 ",
            "opening  open lock 0", " opening open lock 0", "opening open  lock 0", "opening open lock  0 part 1",
            "opening open lock 0  part 1", "opening open lock 0 part  1", "opening open lock 0 part 1 ",
            "opening open key 0", "opening Open lock 0", "opening abcdefghi lock 0", "opening lock lock 0",
            "opening sign lock 0", "opening first lock 0", "opening fir lock 0", "opening open first 0",
            "opening open lock 0 part 1 part 1 part 1", "opening open lock 0 part 1 part", "opening open lock 0 half 1",
            "opening open lock 0 around half", "opening open lock 0 around 1 half", "opening open lock 0 around half 2",
            "opening open lock 0 around lock 1", "opening open lock 0 around key 1", "opening open lock 0 inside half 1",
            "opening open lock 0 inside 1", "opening open lock 0 inside 1 lock", "opening open lock 0 inside 1 key",
            "opening open lock 0 inside 2 half", "opening open lock 0 inside 01 half", "opening open lock 0 whole 1",
            "opening open lock 0 around half 1 inside 1", "opening open lock 0 inside 1 half half", "open lock 0",
            "opening open lock 0,", "opening open half 1", "opening open half 0 part 1", "opening open lock 0 Part 1",
            "opening open lock 3", "opening open lock 10", "opening open lock zero", "opening open lock 0 0 part",
            "opening open lock 0 part one", "kind open 1", "opening 0 lock 0", "opening open 1 0", "opening open lock",
        ):
            self.bad_line(8, line)

    def test_two_needs_are_read(self):
        for needs in ("part 1 part 0", "around half 1 part 1", "inside 0 half around mark 0", "part 1 inside 1 mark"):
            lines = STD_TEXT.split("\n")
            text = "\n".join([*lines[:7], f"{lines[7][:19]} {needs}", *lines[8:]])
            self.assertEqual(str(Book.read(text)), text)

    def test_the_first_wrong_line_is_told(self):
        self.bad("kind b 1\nkind a 1\nkind a 01", 2)
        self.bad("kind b 1\nopening b b 0\nnothing", 2)
        self.bad("kind b 1\nopening c b 0\nopening c b 0\nnothing", 3)
        self.bad("kind b 1\nopening c b 0\nopening b b 0", 3)

    def test_all_changes_of_one_sign(self):
        for at in range(len(STD_TEXT) + 1):
            for sign in " 0129aA\n+":
                for end in (at, at + 1):
                    text = STD_TEXT[:at] + sign + STD_TEXT[end:]
                    line = STD_TEXT[:at].count("\n") + 1
                    try:
                        self.assertEqual(str(Book.read(text)), text)
                    except BadText as error:
                        self.assertTrue(line <= error.line <= 13, text)
