import random
import unittest
from itertools import product

from sealedalike.books import Book
from sealedalike.comparing import compare, is_alike
from sealedalike.rows import Row
from sealedalike.whatever import judge_name, name_holds, tells_nothing
from tests import plain, plain_alike
from tests.samples import AWKWARD, STD, changed_row, nested, odd_values, some_book, some_row, some_rows

OPENED = ("comes", (("shown", 0), ("word", "a"), ("open", "unseal", (0, 1))))


def std(*things):
    return Row(STD, things)


SEALED = std(("seal", "m", "X"))
EXAMPLE = ("tells", "N", ("half", "a"), OPENED)
# Rows that tell nothing of X, and rows that do.
NOTHING = [
    std(), std("a"), std("K", ("half", "L")), std(("lock", "X", "K")), std(("lock", "X", "K"), "M"),
    std(("lock", ("pair", "X", "a"), "K"), ("lock", ("pair", "a", "X"), "L")), std(("half", ("lock", "X", "K"))),
    std(("mark", ("pair", "X", "K"))), std(("seal", "a", ("pair", "X", "K")), "L"),
    std(("lock", "a", ("pair", "X", "K"))), std(("seal", "X", ("half", "S"))), std(("half", ("pair", "K", "X")), "L"),
    std(("sign", "a", ("pair", "K", "X"))), std(("seal", "X", "S"), "K"), std(("seal", "X", ("mark", "S")), "K"),
]
TELLS = [
    std("X"), std("X", "X"), std(("half", "X")), std(("mark", "X")), std(("pair", "X", "K")), SEALED,
    std(("lock", "X", "K"), "K"), std(("lock", "a", "X")), std(("lock", "K", "X")), std(("seal", "X", ("half", "w"))),
    std(("seal", "K", ("half", "X"))), std(("sign", "X", "K")), std(("sign", "a", "X")), std(("sign", "K", "X")),
    std(("lock", "X", "K"), ("lock", "a", "K")), std(("lock", "X", "K"), ("lock", "L", "K")),
    std(("mark", ("pair", "X", "K")), ("mark", ("pair", "b", "K"))), std(("mark", ("pair", "X", "K")), "K"),
    std(("lock", "X", "K"), ("lock", ("half", "S"), "K")), std(("seal", "K", "X")), std(("seal", "a", "X"), "b"),
    std(("seal", "X", "S"), "S"), std(("seal", "X", ("mark", "S")), "S"),
    std(("half", ("pair", "K", "X")), ("sign", "a", ("pair", "K", "L"))),
    std(("half", ("pair", "K", "X")), ("half", ("pair", "K", "L"))),
]


def things_over(book, leaves, times, most, chance):
    """Things made of some, that many times over, at most so many each time."""
    things = list(dict.fromkeys(leaves))
    for _ in range(times):
        made = [(kind, *parts) for kind, many in book.kinds for parts in product(things, repeat=many)]
        things = list(dict.fromkeys(things + (chance.sample(made, most) if len(made) > most else made)))
    return things


def is_right(row, name, paper):
    """Whether ("tells", thing, other, paper) is right."""
    _, first, second, told = paper
    if name in plain.pieces(first) | plain.pieces(second) or told[0] == "alike":
        return False
    return plain_alike.tells_apart(row.replaced(name, first), row.replaced(name, second), told)


class Judge(unittest.TestCase):
    def test_examples(self):
        row = std(("lock", "X", "K"))
        self.assertEqual(judge_name(row, "X"), ("nothing",))
        self.assertEqual(judge_name(row=row, name="X"), ("nothing",))
        self.assertTrue(is_right(SEALED, "X", judge_name(SEALED, "X")))
        self.assertIs(name_holds(SEALED, "X", EXAMPLE), True)
        self.assertIs(name_holds(row=SEALED, name="X", thing=EXAMPLE), True)

    def test_nothing(self):
        for row in NOTHING:
            self.assertEqual(judge_name(row, "X"), ("nothing",), row.things)
            self.assertIs(tells_nothing(row, "X"), True)
            self.assertIs(tells_nothing(row=row, name="X"), True)
            self.assertIs(name_holds(row, "X", ("nothing",)), True)

    def test_tells(self):
        for row in TELLS:
            paper = judge_name(row, "X")
            self.assertEqual((len(paper), paper[0]), (4, "tells"), row.things)
            self.assertTrue(is_right(row, "X", paper), (row.things, paper))
            self.assertIs(tells_nothing(row, "X"), False)
            self.assertIs(name_holds(row, "X", paper), True)
            self.assertIs(name_holds(row, "X", ("nothing",)), False)

    def test_names_that_do_not_stand_in_the_row(self):
        for row in (std(), std("K"), std(("lock", "a", "K"), ("seal", "m", "S")), Row(AWKWARD, ("A", ("h", "B")))):
            for name in ("X", "N", "W9", "Zzzzzzzz"):
                self.assertEqual(judge_name(row, name), ("nothing",))
                self.assertIs(tells_nothing(row, name), True)
                self.assertIs(name_holds(row, name, ("nothing",)), True)
                self.assertIs(name_holds(row, name, ("tells", "N", "a", ("comes", (("word", "a"),)))), False)

    def test_names_and_words_that_look_fresh(self):
        for name in ("N", "Na", "X"):
            row = std(name, "N", "Na", "Nb", "w", "wa", "wb", ("lock", "M", "K"))
            paper = judge_name(row, name)
            self.assertTrue(is_right(row, name, paper))
        names = ["N", *["N" + letter for letter in "abcdefghijklmnopqrstuvwxyz"]]
        row = std(("pair", ("lock", "X", "K"), "w"), *[("lock", name, "K") for name in names[:9]])
        self.assertTrue(is_right(row, "X", judge_name(row, "X")))
        row = std(*[("lock", ("pair", name, ("pair", "w", "wa")), "K") for name in names[:9]])
        for name in names[:9]:
            self.assertTrue(is_right(row, name, judge_name(row, name)))
        self.assertEqual(judge_name(row, "X"), ("nothing",))
        row = std(*[("half", ("pair", "K", ("pair", *names[at:at + 2]))) for at in range(0, 18, 2)])
        self.assertEqual(judge_name(row.with_thing(("half", ("pair", "X", "K"))), "X"), ("nothing",))

    def test_a_thing_by_which_an_opening_comes(self):
        # By S alone, the shown thing is what the opening needs; it can be made of no other things.
        book = Book((("box", 2), ("c", 1), ("d", 2)), (("look", "box", 0, (("around", "c", 1),)),))
        row = Row(book, (("box", "a", "S"), ("d", "X", "S")))
        self.assertEqual(judge_name(row, "X"), ("nothing",))
        shown = Row(book, (("box", "a", ("d", "K", "S")), ("c", ("d", "K", "X")),))
        paper = judge_name(shown, "X")
        self.assertEqual(paper[0], "tells")
        self.assertTrue(is_right(shown, "X", paper))

    def test_inside_looks_by_several_kinds(self):
        book = Book(
            (("box", 2), ("c", 1), ("d", 1)),
            (("look", "box", 0, (("inside", 1, "d"),)),),
        )
        for row in (Row(book, (("box", "A", "X"),)), Row(book, (("box", ("box", "A", "B"), "X"),))):
            paper = judge_name(row, "X")
            self.assertTrue(is_right(row, "X", paper))
        closed = Row(book, (("box", ("c", "X"), "K"), ("box", "A", ("c", "K"))))
        self.assertEqual(judge_name(closed, "X"), ("nothing",))
        never = Book(book.kinds, (("look", "box", 0, (("inside", 1, "c"), ("inside", 1, "d"))),))
        row = Row(never, (("box", "A", ("box", "B", "X")),))
        self.assertEqual(judge_name(row, "X"), ("nothing",))

    def test_all_things_tell_the_same(self):
        chance = random.Random(251)
        words = []
        for at in range(260):
            book = [STD, AWKWARD, some_book(chance)][at % 3]
            row = some_row(book, chance)
            for name in row.names:
                paper = judge_name(row, name)
                words.append(paper[0])
                self.assertIs(tells_nothing(row, name), paper == ("nothing",))
                self.assertIs(name_holds(row, name, paper), True)
                self.assertEqual(judge_name(row, name), paper)
                if paper[0] == "tells":
                    self.assertTrue(is_right(row, name, paper), (row.things, name, paper))
                else:
                    there = [piece for piece in row.pieces if name not in plain.pieces(piece)]
                    wanted = plain_alike.picture(row.replaced(name, "Q"))
                    for thing in things_over(book, [*there[:8], "b", "R"], 1, 12, chance):
                        told = plain_alike.picture(row.replaced(name, thing))
                        self.assertEqual(told, wanted, (str(book), row.things, name, thing))
        self.assertTrue(words.count("tells") > 200 and words.count("nothing") > 30, words.count("nothing"))

    def test_as_by_all_pieces_and_needed_things(self):
        # Only some of these are put in by the program; by the others a row must not tell anything.
        chance = random.Random(259)
        found = []
        for _ in range(500):
            book = some_book(chance)
            leaves = ["X", "X", "K", "S", "L", "a"][:chance.randrange(3, 7)]
            things = things_over(book, leaves, 2, 12, chance)
            row = Row(book, tuple(chance.sample(things[len(leaves):], chance.randrange(1, 4))))
            wanted = plain_alike.picture(row.replaced("X", "Q"))
            needed = [key for piece in row.pieces for _, keys, _ in plain.openings_at(book, piece) for key in keys]
            there = [thing for thing in dict.fromkeys([*row.pieces, *needed]) if "X" not in plain.pieces(thing)]
            fresh = ["word", *[(kind, "word") for kind, many in book.kinds if many == 1]]
            tells = [
                [thing for thing in some if plain_alike.picture(row.replaced("X", thing)) != wanted]
                for some in (fresh, there)
            ]
            self.assertIs(tells_nothing(row, "X"), tells == [[], []], (str(book), row.things))
            found.append((tells[0] == [], tells[1] == []))
        self.assertTrue(found.count((True, True)) > 50 and found.count((True, False)) > 1, found.count((True, False)))

    def test_all_small_things_at_small_rows(self):
        chance = random.Random(252)
        for row in NOTHING:
            wanted = plain_alike.picture(row.replaced("X", "Q"))
            leaves = [piece for piece in (*row.pieces, "a", "w", "K", "Q", "S") if "X" not in plain.pieces(piece)]
            for thing in things_over(STD, leaves, 2, 60, chance):
                self.assertEqual(plain_alike.picture(row.replaced("X", thing)), wanted, (row.things, thing))

    def test_other_names_and_words(self):
        chance = random.Random(253)
        for row in some_rows(120, 254):
            names = chance.sample(["A", "K", "L", "N", "S", "Z9", "Q"], len(row.names))
            for name, other in zip(row.names, names):
                renamed = row.renamed(tuple(zip(row.names, names)))
                self.assertIs(tells_nothing(renamed, other), tells_nothing(row, name))

    def test_deep_things(self):
        deep = nested(500, "X", lambda inner: ("half", inner))
        self.assertEqual(judge_name(std(("half", ("lock", deep, "K"))), "X"), ("nothing",))
        paper = judge_name(std(deep), "X")
        self.assertIs(name_holds(std(deep), "X", paper), True)


class PapersByAnyHand(unittest.TestCase):
    def holds(self, row, name, paper, wanted):
        self.assertIs(name_holds(row, name, paper), wanted, (row.things, name, paper))

    def test_things_put_in(self):
        for first, second, wanted in (
            ("N", ("half", "a"), True), (("half", "a"), "N", True), ("Q", ("half", "a"), True), ("w", ("half", "a"), True),
            (("mark", "X"), ("half", "a"), False), ("N", ("half", "b"), False), ("N", "M", False), ("N", ("mark", "a"), False),
            ("X", ("half", "a"), False), (("half", "a"), "X", False), (("half", "X"), ("half", "a"), False),
            (("half", "a"), ("half", "a"), False), (("half", "a"), ("lock", "X", "b"), False), ("Xa", ("half", "a"), True),
            ("x", ("half", "a"), True), (("half", "Xa"), ("half", "a"), True),
        ):
            self.holds(SEALED, "X", ("tells", first, second, OPENED), wanted)

    def test_names(self):
        self.holds(SEALED, "Y", EXAMPLE, False)
        self.holds(SEALED, "N", EXAMPLE, False)
        self.holds(SEALED.renamed((("X", "Y"),)), "Y", EXAMPLE, True)
        self.holds(SEALED.renamed((("X", "N"),)), "N", EXAMPLE, False)

    def test_papers_that_rows_are_alike(self):
        row = std(("lock", "X", "K"))
        one, other = (row.replaced("X", "a"), row.replaced("X", "b"))
        self.assertEqual(compare(one, other)[0], "alike")
        self.holds(row, "X", ("tells", "a", "b", compare(one, other)), False)
        self.holds(SEALED, "X", ("tells", "N", "M", compare(SEALED.replaced("X", "N"), SEALED.replaced("X", "M"))), False)
        self.holds(std(), "X", ("tells", "a", "b", ("alike", ())), False)

    def test_papers_of_two_recipes(self):
        row = std("X", "K")
        same = ("same", (("shown", 0),), (("shown", 1),))
        self.holds(row, "X", ("tells", "K", "L", same), True)
        self.holds(row, "X", ("tells", "L", "M", same), False)
        self.holds(row, "X", ("tells", "K", "a", same), True)
        self.holds(row, "X", ("tells", "K", "L", same[:2]), False)
        self.holds(row, "X", ("tells", "a", "b", ("same", (("shown", 0),), (("word", "b"),))), True)

    def test_against_a_plain_function(self):
        chance = random.Random(255)
        answers = []
        for row in some_rows(120, 256):
            for name in (*row.names, "Q"):
                paper = judge_name(row, name)
                things = [*row.pieces, "a", "b", "Q", "R", ("h", "a") if row.book == AWKWARD else (row.book.kinds[0][0],)]
                things = [thing for thing in things if row.book.is_thing(thing)]
                told = [paper] if paper[0] == "tells" else []
                for _ in range(4):
                    first, second = chance.choice(things), chance.choice(things)
                    between = compare(row.replaced(name, first), row.replaced(name, second))
                    told.append(("tells", first, second, between))
                    told += [(*old[:3], between) for old in told[:1]] + [("tells", first, *old[2:]) for old in told[:1]]
                for paper in told:
                    answers.append(paper[3][0] != "alike" and is_right(row, name, paper))
                    self.holds(row, name, paper, answers[-1])
        self.assertTrue(answers.count(True) > 150 and answers.count(False) > 150)

    def test_forms(self):
        for thing in (
            "nothing", (), ("nothing", "nothing"), ["nothing"], ("Nothing",), (("nothing",),), None, True, ("tells",),
            EXAMPLE[1:], EXAMPLE[:3], (*EXAMPLE, OPENED), list(EXAMPLE), (EXAMPLE,), (*EXAMPLE[:3], list(OPENED)),
            ("tell", *EXAMPLE[1:]), ("nothing", *EXAMPLE[1:]), (*EXAMPLE[:3], OPENED[1]), (*EXAMPLE[:3], None),
            ("tells", "N", ["half", "a"], OPENED), ("tells", "N", ("half", "a"), "comes"), ("tells", "N", OPENED, ("half", "a")),
            ("tells", "N", ("half",), OPENED), ("tells", "N", ("box", "a"), OPENED), ("tells", None, ("half", "a"), OPENED),
            ("tells", "N", ("half", "a"), ("comes", OPENED[1][:2])), ("tells", "N", ("half", "a"), ("same", *OPENED[1:])),
            ("tells", "N", ("half", "a"), ("comes", (("shown", True), *OPENED[1][1:]))), ("tells", "N", ("half", "a"), ()),
        ):
            self.holds(SEALED, "X", thing, False)

    def test_odd_values(self):
        row = std(("lock", "X", "K"))
        for value in odd_values():
            self.holds(row, "X", value, False)
            self.holds(SEALED, "X", value, False)
            for thing in (
                (value,), ("nothing", value), (value, *EXAMPLE[1:]), ("tells", value, *EXAMPLE[2:]), (*EXAMPLE[:3], value),
                (*EXAMPLE[:2], value, OPENED), (*EXAMPLE, value), (*EXAMPLE[:3], ("comes", value)), ("tells", value, value, value),
                (*EXAMPLE[:3], ("alike", value)), (*EXAMPLE[:3], (value, OPENED[1])),
            ):
                self.holds(SEALED, "X", thing, False)
            self.holds(std(), "X", (value,), False)

    def test_large_things(self):
        full = nested(13, "Q", lambda inner: ("pair", inner, inner))
        self.holds(SEALED, "X", ("tells", full, ("half", "a"), OPENED), True)
        self.holds(SEALED, "X", ("tells", full, ("pair", full[1], "X"), OPENED), False)
        doubled = (("shown", 0), *[("make", "pair", (at, at)) for at in range(150)], ("word", "a"))
        self.holds(SEALED, "X", ("tells", "N", ("half", "a"), ("comes", (*doubled, ("open", "unseal", (0, 151))))), True)
        self.holds(SEALED, "X", ("tells", "N", ("half", "a"), ("comes", (*doubled, ("open", "unseal", (150, 151))))), False)


class WhateverStandsThere(unittest.TestCase):
    def test_two_things(self):
        chance = random.Random(257)
        for row in NOTHING:
            leaves = [piece for piece in (*row.pieces, "a", "Q") if "X" not in plain.pieces(piece)]
            things = things_over(STD, leaves, 1, 20, chance)
            for _ in range(10):
                first, second = chance.choice(things), chance.choice(things)
                self.assertTrue(is_alike(row.replaced("X", first), row.replaced("X", second)))

    def test_the_two_told_things(self):
        for row in TELLS:
            _, first, second, paper = judge_name(row, "X")
            self.assertFalse(is_alike(row.replaced("X", first), row.replaced("X", second)))

    def test_another_name_in_its_place(self):
        for row in NOTHING + TELLS:
            for name in ("Y", "A0", "Zz"):
                self.assertIs(tells_nothing(row.replaced("X", name), name), tells_nothing(row, "X"))

    def test_changed_rows_tell_of_their_own_names(self):
        chance = random.Random(258)
        for row in NOTHING + TELLS:
            changed = changed_row(row, chance)
            for name in changed.names:
                self.assertIs(name_holds(changed, name, judge_name(changed, name)), True)
