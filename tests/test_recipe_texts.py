import itertools
import re
import unittest

from sealedalike.errors import BadText
from sealedalike.recipes import read_recipe, recipe_text
from tests.samples import ROW, odd_values

TEXT = "shown 0;word a;make pair 0 1;open first 2;make opening 0 3 1"


def first_wrong(text):
    """The number of the first wrong step, None if there is none."""
    number = "(?:0|[1-9][0-9]*)"
    for at, step in enumerate(text.split(";")):
        if not re.fullmatch(rf"shown {number}|word [a-z]{{1,8}}|(?:make|open) [a-z]{{1,8}}(?: {number}){{1,3}}", step):
            return at + 1
        if step[0] in "mo" and any(int(told) >= at for told in step.split(" ")[2:]):
            return at + 1
    return None


class WrongTexts(unittest.TestCase):
    def bad(self, text, number):
        with self.assertRaises(BadText) as caught:
            read_recipe(text)
        self.assertEqual(caught.exception.line, number, repr(text)[:200])
        self.assertNotIsInstance(caught.exception.line, bool)

    def test_any_value(self):
        for value in odd_values():
            self.bad(value, 1 if isinstance(value, str) else 0)
        self.bad([TEXT], 0)
        self.bad((("word", "a"),), 0)
        self.bad(ROW, 0)

    def test_wrong_steps(self):
        for step in (
            "", " ", "shown", "shown ", "shown 00", "shown 01", "shown +1", "shown -1", "shown -0", "shown  1", " shown 1",
            "shown 1 ", "shown 1 1", "shown a", "shown 1.0", "shown 1_0", "shown True", "Shown 1", "shown\n1", "shown 1\n",
            "shown,1", "shown1", "word", "word ", "word A", "word abcdefghi", "word a1", "word 1", "word a b", "word  a",
            "word a ", "word a\n", "Word a", "a", "K", "make", "make pair", "make pair ", "make  pair 0", "make pair  0",
            "make pair 0 ", "make pair 0  1", " make pair 0 1", "make pair 0 1 2 0", "make pair 2", "make pair 3",
            "make pair 00", "make pair 0 01", "make pair +0", "make pair -1", "make pair 0,1", "make pair (0, 1)",
            "make Pair 0", "make abcdefghi 0", "make 0 pair", "make 0 0", "make pair a", "make pair 0 1 a", "make p1 0",
            "open", "open first", "open first 2", "open first 0 0 0 0", "open first 01", "open First 0", "open first 0 2",
            "open  first 0", "open first  0", "open first 0 ", "Open first 0", "opens first 0", "made first 0", "first 0",
            "make pair 0\n", "open first \u0660", "shown \u00b2", "shown 1" + "0" * 3000 + "a", "make pair 1" + "0" * 3000,
        ):
            self.bad(f"word b;shown 3;{step};word a", 3)
            self.bad(f"word b;shown 3;{step}", 3)
            self.bad(f"word b;shown 3;{step};", 3)

    def test_no_earlier_steps(self):
        for step in ("make half 0", "open first 0", "make pair 0 1", "open first 1"):
            self.bad(step, 1)
            self.bad(f"{step};word a", 1)
        self.bad("word a;make half 1", 2)
        self.bad("word a;make half 0;make half 2", 3)

    def test_signs_between_steps(self):
        self.bad("", 1)
        self.bad(";", 1)
        self.bad(";word a", 1)
        self.bad("word a;", 2)
        self.bad("word a;;word b", 2)
        self.bad("word a; word b", 2)
        self.bad("word a ;word b", 1)
        self.bad("word a,word b", 1)
        self.bad("word a\nword b", 1)
        self.bad(f"{TEXT}\n", 5)
        self.bad(f"{TEXT};", 6)
        self.bad(f"{TEXT}|word a", 5)

    def test_the_first_wrong_step_is_told(self):
        self.bad("word a;make;make", 2)
        self.bad("word a;word b;make;make half 7;", 3)

    def test_steps_left_out_twice_or_exchanged(self):
        steps = TEXT.split(";")
        for at in range(len(steps)):
            for changed in (steps[:at] + steps[at + 1:], steps[:at + 1] + steps[at:], steps[at:] + steps[:at]):
                self.check(";".join(changed))

    def test_all_changes_of_one_sign(self):
        for at in range(len(TEXT) + 1):
            for sign in ["", *" ;0123459aA\n+-"]:
                for end in (at, at + 1):
                    self.check(TEXT[:at] + sign + TEXT[end:])

    def test_all_short_texts(self):
        for many in range(1, 6):
            for words in itertools.product(("word", "make", "0", "01", "2", ";", "A"), repeat=many):
                self.check(f"word a;{' '.join(words)}".replace(" ; ", ";"))

    def check(self, text):
        wrong = first_wrong(text)
        if wrong is None:
            self.assertEqual(recipe_text(read_recipe(text)), text)
        else:
            self.bad(text, wrong)
