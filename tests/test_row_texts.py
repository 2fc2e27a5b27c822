import unittest

from sealedalike.books import standard_book
from sealedalike.errors import BadText
from sealedalike.rows import Row
from tests import plain
from tests.samples import AWKWARD, ROW, STD, nested, odd_values, some_rows

TEXT = """row 3
lock(pair(a,N),K)
seal(K,half(S))
S"""


class Texts(unittest.TestCase):
    def test_example(self):
        self.assertEqual(str(ROW), TEXT)
        self.assertEqual(Row.read(STD, TEXT), ROW)
        self.assertEqual(Row.read(book=STD, text=TEXT).things, ROW.things)

    def test_without_things(self):
        self.assertEqual(str(Row(STD, ())), "row 0")
        self.assertEqual(Row.read(STD, "row 0"), Row(STD, ()))

    def test_many_things_and_things_twice(self):
        row = Row(STD, ("a",) * 12)
        self.assertEqual(str(row), "row 12" + "\na" * 12)
        self.assertEqual(Row.read(STD, str(row)), row)

    def test_one_thing_of_each_kind(self):
        row = Row(STD, tuple((kind, *["a", "K"][:many]) for kind, many in STD.kinds))
        self.assertEqual(str(row), "row 6\nhalf(a)\nlock(a,K)\nmark(a)\npair(a,K)\nseal(a,K)\nsign(a,K)")
        self.assertEqual(Row.read(standard_book(), str(row)), row)

    def test_there_and_back(self):
        for row in some_rows(300, 21):
            text = str(row)
            self.assertEqual(text, "\n".join([f"row {len(row)}", *map(plain.text, row)]))
            again = Row.read(row.book, text)
            self.assertEqual(vars(again), vars(row))
            self.assertIs(again.book, row.book)
            self.assertEqual(str(again), text)

    def test_deep(self):
        row = Row(STD, (nested(300, "K", lambda inner: ("half", inner)),))
        self.assertEqual(Row.read(STD, str(row)), row)


class WrongTexts(unittest.TestCase):
    def bad(self, text, line, book=STD):
        with self.assertRaises(BadText) as caught:
            Row.read(book, text)
        self.assertEqual(caught.exception.line, line, repr(text)[:200])
        self.assertNotIsInstance(caught.exception.line, bool)

    def test_any_value(self):
        for value in odd_values():
            self.bad(value, 1 if isinstance(value, str) else 0)
        self.bad([TEXT], 0)
        self.bad((TEXT,), 0)
        self.bad(ROW, 0)

    def test_first_line(self):
        for line in (
            "row", "row ", "row  3", " row 3", "row 3 ", "row 03", "row 003", "row +3", "row -3", "row -0", "row 3.",
            "row 3.0", "row three", "row 3 3", "row3", "rows 3", "Row 3", "ROW 3", "3", "3 row", "", " ", "row 3,",
            "row True", "row 0x3", "row 1_0", "row\t3", "row 3;", "row a", "row K", "row \u00b2", "row \u0663",
        ):
            self.bad(f"{line}\n" + TEXT.split("\n", 1)[1], 1)
            self.bad(line, 1)

    def test_missing_lines(self):
        lines = TEXT.split("\n")
        self.bad(lines[0], 2)
        self.bad("\n".join(lines[:2]), 3)
        self.bad("\n".join(lines[:3]), 4)
        self.bad("row 1", 2)
        self.bad("row 5\na\na\na\na", 6)
        self.bad("row 10\na", 3)
        self.bad("row 1" + "0" * 3000 + "\na\na", 4)

    def test_one_too_many(self):
        self.bad(f"{TEXT}\na", 5)
        self.bad(f"{TEXT}\n", 5)
        self.bad(f"{TEXT}\n\n", 5)
        self.bad("row 0\n", 2)
        self.bad("row 0\na", 2)
        self.bad("row 0\n\n", 2)
        self.bad("row 1\na\nb\nc", 3)
        self.bad("row 2" + TEXT[5:], 4)

    def test_lines_left_out_twice_or_empty(self):
        lines = TEXT.split("\n")
        for at in range(1, len(lines)):
            self.bad("\n".join(lines[:at] + lines[at + 1:]), 4)
            self.bad("\n".join(lines[:at + 1] + lines[at:]), 5)
            self.bad("\n".join(lines[:at] + [""] + lines[at + 1:]), at + 1)
            self.bad("\n".join(lines[:at] + [lines[0]] + lines[at + 1:]), at + 1)
        self.bad("\n".join(lines[1:]), 1)
        self.bad("\n".join([lines[0], *lines]), 2)
        self.bad("\n".join([lines[1], lines[0], *lines[2:]]), 1)
        self.bad("\n".join(["", *lines]), 1)

    def test_lines_exchanged_are_another_row(self):
        lines = TEXT.split("\n")
        row = Row.read(STD, "\n".join([lines[0], lines[3], lines[2], lines[1]]))
        self.assertEqual(row.things, ROW.things[::-1])

    def test_things(self):
        for wrong in (
            "lock(a)", "lock(a,b,c)", "lock(a,b", "lock(a, b)", " a", "a ", "1", "lock", "AB", "abcdefghi", "nokind(a)",
            "part(a)", "a,b", "a b", "", "half(a))", "('half', 'a')", "first(a,b)", "a;",
        ):
            if wrong != "lock":
                self.bad(f"row 3\na\n{wrong}\nb", 3)
                self.bad(f"row 1\n{wrong}", 2)
                self.bad(f"row 3\n{wrong}\n{wrong}", 2)
        self.bad("row 1\nhalf(a)", 2, AWKWARD)
        self.assertEqual(Row.read(AWKWARD, "row 1\npart(a)").things, (("part", "a"),))

    def test_the_first_wrong_line_is_told(self):
        self.bad("row x\n1", 1)
        self.bad("row 5\n1\n2", 2)
        self.bad("row 1\na\n1", 3)
        self.bad("row 2\na\n1\nb", 3)

    def test_other_ends_of_lines(self):
        self.bad(TEXT.replace("\n", ";"), 1)
        self.bad(TEXT.replace("\n", "\r\n"), 1)
        self.bad(TEXT.replace("\n", " "), 1)

    def test_all_changes_of_one_sign(self):
        for at in range(len(TEXT) + 1):
            for sign in ["", *" 0134aK(),\n+"]:
                for end in (at, at + 1):
                    text = TEXT[:at] + sign + TEXT[end:]
                    try:
                        self.assertEqual(str(Row.read(STD, text)), text)
                    except BadText as error:
                        self.assertTrue(1 <= error.line <= 6)
                        if at > 5 and "\n" not in sign + TEXT[at:end]:
                            self.assertEqual(error.line, TEXT[:at].count("\n") + 1)
