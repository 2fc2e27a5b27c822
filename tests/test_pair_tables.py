"""Tables of pairs by any hand."""

import random
import unittest

from sealedalike.books import Book
from sealedalike.comparing import compare, compare_holds, is_alike
from sealedalike.rows import Row
from tests import plain, plain_alike
from tests.samples import STD, nested, odd_values, some_pairs

LOCKED = ("lock", "a", "K")
SIGNED = ("sign", "a", "S")


def std(*things):
    return Row(STD, things)


class Tables(unittest.TestCase):
    def holds(self, one, other, pairs, wanted):
        self.assertIs(compare_holds(one, other, ("alike", pairs)), wanted, (one.things, other.things, pairs))

    def both(self, one, other, pairs, wanted):
        self.holds(one, other, pairs, wanted)
        self.holds(other, one, plain_alike.turned(pairs), wanted)

    def test_example(self):
        pairs = ((LOCKED, "M"),)
        self.both(std(LOCKED), std("M"), pairs, True)
        self.assertIs(compare_holds(one=std(LOCKED), other=std("M"), thing=("alike", pairs)), True)
        self.holds(std("M"), std(LOCKED), pairs, False)
        self.both(std(LOCKED), std("M"), ((LOCKED, "N"),), False)
        self.both(std(LOCKED), std("M"), (), False)
        self.both(std(LOCKED, "K"), std("M", "N"), ((LOCKED, "M"), ("K", "N")), False)

    def test_empty_tables(self):
        self.holds(std(), std(), (), True)
        self.holds(std("a", ("half", "b")), std("a", ("half", "b")), (), True)
        self.holds(std("a"), std("b"), (), False)
        self.holds(std("K"), std("K"), (), False)
        self.holds(std(("lock", "a", "b")), std(("lock", "a", "b")), (), True)
        self.holds(std(("lock", "a", "b")), std(("lock", "a", "c")), (), False)

    def test_pairs_of_words(self):
        self.both(std("a"), std("a"), (("a", "a"),), True)
        self.both(std("K"), std("L"), (("K", "L"), ("z", "z")), True)
        self.both(std("a"), std("b"), (("a", "b"),), False)
        self.both(std("a"), std("a"), (("b", "c"),), False)
        self.both(std("a", "b"), std("b", "a"), (("a", "b"), ("b", "a")), False)
        self.both(std("a"), std("K"), (("a", "K"),), False)
        self.both(std(), std(), (("a", "K"),), False)
        self.both(std(), std(), ((("half", "K"), "w"),), False)

    def test_pairs_that_their_parts_ask_for(self):
        one, other = (std(("half", "K"), "K"), std(("half", "N"), "N"))
        self.both(one, other, (("K", "N"),), True)
        self.both(one, other, (("K", "N"), (("half", "K"), ("half", "N"))), True)
        self.both(one, other, (("K", "N"), (("mark", "K"), ("half", "N"))), False)
        self.both(one, other, (("K", "N"), (("mark", "a"), ("mark", "a"))), True)
        self.both(one, other, (("K", "N"), (("mark", "a"), ("mark", "b"))), False)
        self.both(one, other, (("K", "N"), (("mark", "K"), "L")), False)
        self.both(one, other, (("K", "N"), (("mark", "K"), ("mark", "L"))), False)
        # Seen from the right alone: the right thing is made of partners, the left one is not.
        self.both(std("K"), std("N"), (("K", "N"), (("mark", "L"), ("mark", "N"))), False)
        self.both(std("K"), std("N"), (("K", "N"), ("L", "a")), False)

    def test_a_thing_twice_on_one_side(self):
        self.both(std("K", "K"), std("N", "L"), (("K", "L"), ("K", "N")), False)
        self.both(std("K"), std("N"), (("K", "L"), ("K", "N")), False)
        self.both(std("K", "L"), std("N", "N"), (("K", "N"), ("L", "N")), False)
        self.both(std("K"), std("N"), (("K", "N"), ("L", "N")), False)
        self.both(std("K"), std("N"), (("K", "N"), ("K", "N")), False)

    def test_pairs_that_do_not_ascend(self):
        one, other = (std("K", "L"), std("B", "A"))
        self.holds(one, other, (("K", "B"), ("L", "A")), True)
        self.holds(one, other, (("L", "A"), ("K", "B")), False)
        self.holds(other, one, (("A", "L"), ("B", "K")), True)
        # By their texts: a bracket stands ahead of letters.
        half, mark = (("half", "A"), "halfa")
        self.holds(std(half), std("B"), ((half, "B"), (mark, mark)), True)
        self.holds(std(half), std("B"), ((mark, mark), (half, "B")), False)

    def test_openings_at_pairs(self):
        box, told = ("sign", "a", "S"), ("sign", "a", "L")
        self.both(std(box), std(told), ((box, told),), True)
        self.both(std(box), std(("sign", "b", "S")), ((box, ("sign", "b", "S")),), False)
        self.both(std(box), std("M"), ((box, "M"),), False)
        self.both(std(box), std(LOCKED), ((box, LOCKED),), False)
        half, other = (("half", "S"), ("half", "L"))
        self.both(std(box, half), std(told, other), ((half, other), (box, told)), True)
        self.both(std(box, half), std(box, other), ((half, other), (box, box)), False)
        self.both(std(box, other), std(box, other), ((other, other), (box, box)), True)
        self.both(std(box, half), std(told, other), ((box, told),), False)

    def test_given_parts(self):
        box, told = (("sign", "K", "S"), ("sign", "N", "S"))
        self.both(std(box), std(told), (("K", "N"), (box, told)), True)
        self.both(std(box), std(told), ((box, told),), False)
        self.both(std(box), std(told), (("K", "L"), (box, told)), False)
        self.both(std(box, "K"), std(told, "K"), (("K", "K"), (box, told)), False)

    def test_needed_things_that_are_made(self):
        key = ("pair", "N", "w")
        one, other = (std(("lock", "K", key), "N"), std(("lock", "L", key), "N"))
        self.both(one, other, (("K", "L"), ("N", "N")), True)
        self.both(one, other, (("N", "N"),), False)
        self.both(one, other, (("N", "N"), (one.things[0], other.things[0])), False)
        third = std(("lock", "K", ("pair", "N", "v")), "N")
        pairs = (("N", "N"), (third.things[0], one.things[0]))
        self.both(third, one, pairs, False)

    def test_an_inside_that_finds_nothing(self):
        one, other = (std(("seal", "K", ("half", "S")), "S"), std(("seal", "K", "S"), "S"))
        self.both(one, other, (("S", "S"), (one.things[0], other.things[0])), False)
        third = std(("seal", "K", ("mark", "S")), "L")
        self.both(third, std(("seal", "K", "S"), "S"), (("L", "S"), (third.things[0], other.things[0])), True)
        book = Book(
            (("box", 2), ("c", 1)),
            (("look", "box", 0, (("inside", 1, "c"),)), ("open", "box", 0, (("inside", 1, "c"), ("part", 1)))),
        )
        left, right = (Row(book, (("box", "a", ("c", "S")), "S")), Row(book, (("box", "a", "L"), "M")))
        self.both(left, right, (("S", "M"), (left.things[0], right.things[0])), False)

    def test_things_that_are_no_pieces(self):
        one, other = (std("K"), std("N"))
        self.both(one, other, (("K", "N"), ("Q", "R")), True)
        self.both(one, other, (("K", "N"), (("lock", "a", "Q"), ("mark", "R"))), True)
        self.both(one, other, (("K", "N"), (LOCKED, ("mark", "R"))), False)
        self.both(one, other, (("K", "N"), (LOCKED, ("lock", "b", "N"))), False)
        self.both(one, other, (("K", "N"), (("lock", "a", "Q"), ("lock", "a", "R"))), True)
        self.both(one, other, (("K", "N"), ("Q", "R"), (("lock", "a", "Q"), ("lock", "a", "R"))), True)
        self.both(one, other, (("K", "N"), ("Q", "R"), (("lock", "a", "Q"), ("lock", "b", "R"))), False)
        self.both(one, other, (("K", "N"), (("pair", "Q", "a"), "R")), False)

    def test_needless_pairs_of_pieces(self):
        # The pair of keys within alike locks is not asked for, and says more than what can be had.
        one, other = (std(("lock", "a", "K")), std(("lock", "a", "L")))
        self.both(one, other, ((one.things[0], other.things[0]),), True)
        self.both(one, other, (("K", "L"), (one.things[0], other.things[0])), True)
        self.both(one, other, (("K", "L"),), True)
        self.both(std(("lock", "a", "K")), std(("lock", "b", "K")), (("K", "K"),), False)

    def test_forms(self):
        one, other = (std("K", LOCKED), std("N", ("lock", "a", "N")))
        self.holds(one, other, (("K", "N"),), True)
        for pairs in (
            [("K", "N")], (["K", "N"],), (("K", "N", "N"),), (("K",),), ("K", "N"), ("KN",), ((("K", "N"),),), {"K": "N"},
            (("K", "N"), None), (("K", "N"), ()), None, (("K", True),), (("K", "N"), ("Q", 1)), ("K", ("K", "N")),
            (("K", "N"), (["half", "Q"], "R")), (("K", "N"), ("Q", ("half",))), (("K", "N"), ("Q", ("box", "R"))),
        ):
            self.holds(one, other, pairs, False)
        pairs = (("K", "N"),)
        for thing in (
            ("alike",), ("alike", pairs, pairs), ["alike", pairs], (pairs, "alike"), ("Alike", pairs), (pairs,),
            ("alike", "alike", pairs), ("unlike", pairs), ("comes", pairs), ("same", pairs), ("same", pairs, pairs),
            (True, pairs), ("alike ", pairs), pairs,
        ):
            self.assertIs(compare_holds(one, other, thing), False)

    def test_odd_values(self):
        one, other = (std("K"), std("N"))
        odd = odd_values()
        for value in odd:
            self.assertIs(compare_holds(one, other, value), False)
            for thing in (
                ("alike", value), (value, (("K", "N"),)), ("alike", (value,)), ("alike", (("K", "N"), value)),
                ("alike", (("K", value),)), ("alike", ((value, "N"),)), ("alike", (("K", "N"), ("Q", value))),
                ("alike", (("K", "N"),), value), ("comes", value), ("same", value, value),
            ):
                wanted = thing == ("alike", (("K", "N"),))
                self.assertIs(compare_holds(one, other, thing), wanted, thing)

    def test_all_tables_over_some_things(self):
        pool = ["K", "L", "a", ("half", "K"), ("sign", "a", "K"), ("lock", "L", "K")]
        pairs = [(left, right) for left in pool for right in pool]
        rows = [
            std(), std("K"), std("L"), std(("half", "K")), std(("sign", "a", "K")), std(("lock", "L", "K")),
            std("K", ("half", "K")), std("L", ("half", "L")), std(("half", "K"), ("sign", "a", "K")),
        ]
        right = 0
        for one in rows:
            for other in rows:
                if len(one) == len(other):
                    for first in pairs:
                        for table in [(first,)] + [(first, second) for second in pairs]:
                            wanted = plain_alike.is_table(one, other, table)
                            right += wanted
                            self.holds(one, other, table, wanted)
        self.assertGreater(right, 100)

    def test_tables_with_parts_changed(self):
        chance = random.Random(231)
        right = wrong = 0
        for one, other in some_pairs(300, 232):
            word, pairs = compare(one, other)[:2]
            pairs = pairs if word == "alike" else ()
            pool = [*one.pieces, *other.pieces, "K", "Q", "a", "b"]
            for _ in range(12):
                table = dict(pairs)
                for _ in range(chance.randrange(3)):
                    table[chance.choice(pool)] = chance.choice(pool)
                for key in chance.sample(list(table), min(len(table), chance.randrange(2))):
                    del table[key]
                told = tuple((key, table[key]) for key in plain.ascending(table))
                wanted = plain_alike.is_table(one, other, told)
                self.holds(one, other, told, wanted)
                self.holds(other, one, plain_alike.turned(told), wanted)
                right += wanted
                wrong += not wanted
                if wanted:
                    self.assertTrue(is_alike(one, other))
        self.assertTrue(right > 300 and wrong > 1000)

    def test_large_tables(self):
        names = [letter + digit for letter in "KLMN" for digit in "0123456789"]
        table = tuple((name, ("half", name)) for name in names)
        self.holds(std("K0", "N9"), std(("half", "K0"), ("half", "N9")), table, True)
        self.holds(std("K0", "N9"), std(("half", "K0"), ("half", "N8")), table, False)
        deep = nested(40, "Q", lambda inner: ("half", inner))
        self.holds(std("K"), std(deep), (("K", deep),), True)
        self.holds(std(deep), std(deep), (("Q", "Q"),), True)
        full = nested(13, "Q", lambda inner: ("pair", inner, inner))
        self.holds(std("K"), std("K"), (("K", "K"), (("half", full), "R")), True)
        self.holds(std("K"), std("K"), (("K", "K"), ("Q", "R"), (full, "S")), False)
