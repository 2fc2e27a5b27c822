import random
import unittest

from sealedalike.comparing import compare, compare_holds
from sealedalike.findings import finding_holds
from sealedalike.having import basis, is_had, judge, judge_holds, least_size
from sealedalike.rows import Row
from sealedalike.whatever import tells_nothing
from tests import plain
from tests.samples import AWKWARD, GOOD, ROW, STD, STD_TEXT, asked_things, nested, odd_values, some_pairs, some_rows

ROW_TEXT = "row 3\nlock(pair(a,N),K)\nseal(K,half(S))\nS"
TWO_TEXT = "row 2\nlock(a,K)\nM"
CLOSED = ("M", ("lock", "a", "K"))
OPENED = (("shown", 0), ("shown", 1), ("open", "open", (0, 1)))
LEFT = "row 2\nlock(a,K)\nK"
RIGHT = "row 2\nlock(b,K)\nK"
OTHER = "row 2\nlock(a,L)\nK"

# One finding of each sort that holds.
GOOD_ONES = [
    ("had", STD_TEXT, ROW_TEXT, "N", GOOD),
    ("kept", STD_TEXT, TWO_TEXT, "K", CLOSED),
    ("basis", STD_TEXT, ROW_TEXT, ("K", "N", "S")),
    ("size", STD_TEXT, ROW_TEXT, "N", 6),
    ("alike", STD_TEXT, "row 1\nlock(a,K)", "row 1\nM", ((("lock", "a", "K"), "M"),)),
    ("comes", STD_TEXT, LEFT, OTHER, OPENED),
    ("same", STD_TEXT, LEFT, RIGHT, OPENED, (("word", "a"),)),
    ("nothing", STD_TEXT, "row 1\nlock(X,K)", "X"),
]


class Findings(unittest.TestCase):
    def holds(self, thing, wanted):
        self.assertIs(finding_holds(thing), wanted, thing)

    def test_each_sort(self):
        for finding in GOOD_ONES:
            self.holds(finding, True)
            self.assertIs(finding_holds(thing=finding), True)

    def test_parts_left_out_twice_or_exchanged(self):
        for finding in GOOD_ONES:
            for at in range(len(finding)):
                self.holds(finding[:at] + finding[at + 1:], False)
                self.holds(finding[:at + 1] + finding[at:], False)
                for other in range(at):
                    changed = list(finding)
                    changed[at], changed[other] = changed[other], changed[at]
                    same = (finding[0], at, other) == ("same", 5, 4) or (finding[0], at, other) in (("same", 3, 2), ("comes", 3, 2))
                    self.holds(tuple(changed), same)
            self.holds(list(finding), False)
            self.holds((finding,), False)
            self.holds(finding[1:], False)
            self.holds(finding[0], False)
            for word in ("", "Had", "had ", "closed", "tells", "row", "book", *[other[0] for other in GOOD_ONES]):
                if word != finding[0]:
                    self.holds((word, *finding[1:]), False)

    def test_any_value_in_each_place(self):
        for value in odd_values():
            self.holds(value, False)
            self.holds((value,), False)
            for finding in GOOD_ONES:
                self.holds((*finding, value), False)
                for at in range(len(finding)):
                    self.holds((*finding[:at], value, *finding[at + 1:]), False)

    def test_texts_of_books(self):
        less = STD_TEXT[:STD_TEXT.rindex("\n")]
        more = STD_TEXT.replace("kind half 1", "kind bag 1\nkind half 1")
        for finding in GOOD_ONES:
            for text in (
                "", STD_TEXT + "\n", " " + STD_TEXT, STD_TEXT.replace("\n", ";"), STD_TEXT.replace("half", "hall"),
                STD_TEXT.replace("kind pair 2\n", ""), str(AWKWARD), STD, None, "\n".join(STD_TEXT.split("\n")[::-1]),
            ):
                right = text == STD_TEXT.replace("half", "hall") and not any(
                    "half" in str(part) for part in finding[2:])
                self.holds((finding[0], text, *finding[2:]), right)
            self.holds((finding[0], more, *finding[2:]), True)
            # Without "unseal" the key stays within the seal.
            self.holds((finding[0], less, *finding[2:]), finding[2] != ROW_TEXT)

    def test_texts_of_rows(self):
        for finding in GOOD_ONES:
            text = finding[2]
            for wrong in (
                "", text + "\n", " " + text, text.replace("row ", "row  "), text.replace("row", "Row"), text[:-1],
                text.replace("\n", "\n\n", 1), text + "\nK", "row 0\n", text.replace("row ", "row 0"), STD_TEXT, None,
                Row.read(STD, text), text.replace("\n", ";"), "\n".join(text.split("\n")[::-1]),
            ):
                self.holds((*finding[:2], wrong, *finding[3:]), False)
                if finding[0] in ("alike", "comes", "same"):
                    self.holds((*finding[:3], wrong, *finding[4:]), False)

    def test_had(self):
        for thing, recipe, wanted in (
            ("N", GOOD, True), ("K", GOOD[:4], True), ("K", GOOD, False), ("N", list(GOOD), False), ("N", (), False),
            ("N", GOOD[:-1], False), ("a", (("word", "a"),), True), ("a", (("word", "b"),), False), ("N", "shown 0", False),
            (("half", "S"), (("shown", 2), ("make", "half", (0,))), True), ("S", (("shown", 2),), True),
            ("S", (("shown", 3),), False), ("S", (("shown", True),), False), (["half", "S"], GOOD, False), (None, GOOD, False),
        ):
            self.holds(("had", STD_TEXT, ROW_TEXT, thing, recipe), wanted)

    def test_kept(self):
        for thing, things, wanted in (
            ("K", CLOSED, True), ("Q", CLOSED, True), ("M", CLOSED, False), ("a", CLOSED, False), ("K", CLOSED[::-1], False),
            ("K", list(CLOSED), False), ("K", CLOSED[:1], False), ("K", ("M", "Q", CLOSED[1]), True), ("K", (), False),
            (("lock", "b", "K"), CLOSED, True), (("lock", "b"), CLOSED, False), ("k k", CLOSED, False), (None, CLOSED, False),
            (("box", "K"), CLOSED, False), (STD, CLOSED, False), (["K"], CLOSED, False), ({}, CLOSED, False),
        ):
            self.holds(("kept", STD_TEXT, TWO_TEXT, thing, things), wanted)
        self.holds(("kept", STD_TEXT, "row 0", "K", ()), True)

    def test_basis(self):
        for things, wanted in (
            (("K", "N", "S"), True), (["K", "N", "S"], False), (("K", "N"), False), (("N", "K", "S"), False),
            (("K", "K", "N", "S"), False), (("K", "N", "S", "a"), False), ((), False), (("K", "N", ("half", "S")), False),
            (("K", "N", ["half", "S"]), False), ("KNS", False), (("K,N,S",), False),
        ):
            self.holds(("basis", STD_TEXT, ROW_TEXT, things), wanted)
        self.holds(("basis", STD_TEXT, "row 0", ()), True)
        self.holds(("basis", STD_TEXT, TWO_TEXT, CLOSED), True)
        self.holds(("basis", STD_TEXT, TWO_TEXT, ("M", ["lock", "a", "K"])), False)

    def test_sizes(self):
        for thing, size, wanted in (
            ("N", 6, True), ("N", 5, False), ("N", 7, False), ("N", "6", False), ("N", None, False), ("N", (6,), False),
            ("S", 1, True), ("S", True, False), ("S", 0, False), ("S", -1, False), ("w", 1, True), ("w", True, False),
            (("half", "S"), 2, True), ("Q", 1, False), ("Q", 0, False), (None, 1, False), (["half", "S"], 2, False),
            (("half",), 2, False), ("Q", None, False), ("Q", False, False),
        ):
            self.holds(("size", STD_TEXT, ROW_TEXT, thing, size), wanted)

    def test_rows_of_unlike_numbers(self):
        for text in ("row 0", "row 1\nlock(a,K)", "row 3\nlock(a,K)\nK\nK"):
            for word, *parts in (("alike", ()), ("comes", OPENED), ("same", OPENED, (("word", "a"),))):
                self.holds((word, STD_TEXT, LEFT, text, *parts), False)
                self.holds((word, STD_TEXT, text, LEFT, *parts), False)

    def test_two_rows(self):
        pairs = ((("lock", "a", "K"), ("lock", "b", "L")),)
        one, other = "row 1\nlock(a,K)", "row 1\nlock(b,L)"
        self.holds(("alike", STD_TEXT, one, other, pairs), True)
        self.holds(("alike", STD_TEXT, other, one, pairs), False)
        self.holds(("alike", STD_TEXT, one, other, list(pairs)), False)
        self.holds(("alike", STD_TEXT, one, other, ()), False)
        self.holds(("alike", STD_TEXT, "row 0", "row 0", ()), True)
        self.holds(("comes", STD_TEXT, one, other, OPENED), False)
        self.holds(("comes", STD_TEXT, LEFT, RIGHT, OPENED), False)
        self.holds(("same", STD_TEXT, LEFT, RIGHT, (("word", "b"),), OPENED), True)
        self.holds(("same", STD_TEXT, LEFT, OTHER, (("word", "a"),), OPENED), False)
        self.holds(("same", STD_TEXT, LEFT, RIGHT, OPENED, OPENED), False)

    def test_names(self):
        for text, name, wanted in (
            ("row 1\nlock(X,K)", "X", True), ("row 1\nlock(X,K)", "Y", True), ("row 1\nlock(X,K)", "K", False),
            ("row 1\nlock(X,K)", "x", False), ("row 1\nlock(X,K)", "", False), ("row 1\nlock(X,K)", ("X",), False),
            ("row 1\nX", "X", False), ("row 0", "X", True), ("row 0", "XXXXXXXXX", False), ("row 0", "X_", False),
            ("row 0", None, False), ("row 0", ["X"], False), ("row 0", "half", False), ("row 0", ("half", "X"), False),
        ):
            self.holds(("nothing", STD_TEXT, text, name), wanted)

    def test_eight_things(self):
        names = "ABCDEFG"
        things = ["A", *[("lock", key, other) for other, key in zip(names, names[1:])], ("lock", "a", "G")]
        row = Row(STD, tuple(things))
        text = "row 8\nA\nlock(B,A)\nlock(C,B)\nlock(D,C)\nlock(E,D)\nlock(F,E)\nlock(G,F)\nlock(a,G)"
        steps = [("shown", at) for at in range(7)] + [("open", "open", (1, 0))]
        steps += [("open", "open", (at, at + 5)) for at in range(2, 7)]
        self.assertEqual(str(row), text)
        self.holds(("had", STD_TEXT, text, "G", tuple(steps)), True)
        self.holds(("had", STD_TEXT, text, "F", tuple(steps)), False)
        self.holds(("had", STD_TEXT, text, "F", tuple(steps[:-1])), True)
        self.holds(("basis", STD_TEXT, text, tuple(names)), True)
        self.holds(("basis", STD_TEXT, text, tuple(names[:-1])), False)
        self.holds(("kept", STD_TEXT, text, "H", tuple(names)), True)
        self.holds(("kept", STD_TEXT, text, "H", tuple("ABCDEF")), False)
        self.holds(("kept", STD_TEXT, text, "G", tuple(names)), False)
        for at, name in enumerate(names):
            self.holds(("size", STD_TEXT, text, name, 2 * at + 1), True)
            self.holds(("size", STD_TEXT, text, name, 2 * at + 2), False)
            self.holds(("nothing", STD_TEXT, text, name), False)
            without = text.replace("row 8\nA\n", "row 7\n")
            self.holds(("nothing", STD_TEXT, without, name), False)
            self.holds(("size", STD_TEXT, without, name, 2 * at + 1), False)
        self.holds(("nothing", STD_TEXT, text, "H"), True)
        self.holds(("nothing", STD_TEXT, text.replace("lock(a", "lock(H"), "H"), False)
        self.holds(("nothing", STD_TEXT, without.replace("lock(a", "lock(H"), "H"), True)

    def test_deep_things(self):
        deep = nested(900, "K", lambda inner: ("half", inner))
        row = Row(STD, (("half", deep), "M"))
        self.holds(("basis", STD_TEXT, str(row), basis(row)), True)
        self.holds(("basis", STD_TEXT, str(row), basis(row)[1:]), False)
        again = nested(900, "N", lambda inner: ("half", inner))
        self.holds(("basis", STD_TEXT, str(row), basis(Row(STD, (("half", again), "M")))), False)


class FindingsOfFunctions(unittest.TestCase):
    def holds(self, thing, wanted):
        self.assertIs(finding_holds(thing), wanted, thing)

    def test_one_row(self):
        words = []
        for row in some_rows(100, 321):
            book, text = str(row.book), str(row)
            self.holds(("basis", book, text, basis(row)), True)
            for thing in asked_things(row)[:6]:
                word, told = judge(row, thing)
                words.append(word)
                self.holds(("had" if word == "had" else "kept", book, text, thing, told), True)
                self.holds(("kept" if word == "had" else "had", book, text, thing, told), False)
                if word == "had":
                    size = least_size(row, thing)
                    self.holds(("size", book, text, thing, size), True)
                    self.holds(("size", book, text, thing, size + 1), False)
                else:
                    self.holds(("size", book, text, thing, 1), False)
            for name in (*row.names, "Q"):
                self.holds(("nothing", book, text, name), tells_nothing(row, name))
        self.assertTrue(words.count("had") > 100 and words.count("closed") > 100)

    def test_one_row_with_another_row_or_part(self):
        chance = random.Random(322)
        answers = []
        rows = [row for row in some_rows(120, 323) if row.book == STD]
        for row in rows:
            things = asked_things(row)
            thing, part = chance.choice(things), chance.choice(things)
            word, told = judge(row, thing)
            other = chance.choice([row.with_thing("K"), row.only(()), chance.choice(rows), row + row])
            sort = "had" if word == "had" else "kept"
            for about in (thing, part):
                answers.append(judge_holds(other, about, (word, told)))
                self.holds((sort, STD_TEXT, str(other), about, told), answers[-1])
                wanted = is_had(other, about) and least_size(other, about) == 2
                self.holds(("size", STD_TEXT, str(other), about, 2), wanted)
            self.holds(("basis", STD_TEXT, str(other), basis(row)), basis(other) == basis(row))
            for name in (*row.names, "Q"):
                self.holds(("nothing", STD_TEXT, str(other), name), tells_nothing(other, name))
        self.assertTrue(answers.count(True) > 20 and answers.count(False) > 20)

    def test_two_rows(self):
        chance = random.Random(324)
        answers = []
        pairs = some_pairs(250, 325)
        for one, other in pairs:
            book, paper = str(one.book), compare(one, other)
            self.holds((paper[0], book, str(one), str(other), *paper[1:]), True)
            third = chance.choice([one, other.with_thing("a"), Row(one.book, other.things[::-1]), other.replaced("K", "a")])
            for left, right in ((one, third), (third, other), (other, one)):
                answers.append(compare_holds(left, right, paper))
                self.holds((paper[0], book, str(left), str(right), *paper[1:]), answers[-1])
            for word in ("alike", "comes", "same"):
                if word != paper[0]:
                    self.holds((word, book, str(one), str(other), *paper[1:]), False)
        self.assertTrue(answers.count(True) > 100 and answers.count(False) > 100)

    def test_rows_in_the_place_of_their_texts(self):
        for finding in GOOD_ONES:
            row = Row.read(STD, finding[2])
            self.assertTrue(plain.is_word(finding[0]))
            self.holds((finding[0], STD, row, *finding[3:]), False)
            self.holds((finding[0], STD_TEXT, row, *finding[3:]), False)
            self.holds((finding[0], STD, finding[2], *finding[3:]), False)
        self.holds(("basis", STD_TEXT, str(ROW), basis(ROW)), True)
