import random
import unittest
from itertools import combinations

from sealedalike.books import Book, standard_book
from sealedalike.comparing import is_alike
from sealedalike.errors import Mismatch
from sealedalike.having import is_had
from sealedalike.rows import Row
from sealedalike.slips import least_shows, least_slips, slips_apart
from tests import plain, plain_alike
from tests.samples import RING, ROW, STD, asked_things, some_pairs, some_rows


def std(*things):
    return Row(STD, things)


def locked_rows(many, seed):
    """Rows of things that are locked, or sealed, with names and pairs of names."""
    chance = random.Random(seed)
    rows = []
    for _ in range(many):
        names = [chance.choice("ABCDE") for _ in range(12)]
        keys = [chance.choice([name, ("pair", name, names[0])]) for name in names]
        things = [
            chance.choice([("lock", names[at], keys[at + 4]), ("seal", ("pair", names[at], "b"), ("half", names[at + 4]))])
            for at in range(chance.randint(1, 4))
        ]
        rows.append(std(*things))
    return rows


def least_sets(members, does):
    """The least sets, looked for from the smallest on."""
    found = []
    for many in range(len(members) + 1):
        for chosen in combinations(members, many):
            if not any(set(least) <= set(chosen) for least in found) and does(chosen):
                found.append(chosen)
    return tuple(sorted(found))


class LeastSlips(unittest.TestCase):
    def test_examples(self):
        row = std(("lock", ("pair", "a", "N"), "K"), ("seal", "K", ("half", "S")))
        self.assertEqual(least_slips(row, "N"), (("K",), ("N",), ("S",)))
        self.assertEqual(least_slips(row=row, thing=("pair", "N", "S")), (("S",),))
        self.assertEqual(least_slips(row, ("lock", "N", "K")), (("K",), ("S",)))
        self.assertEqual(least_slips(row, "S"), (("S",),))
        self.assertEqual(least_slips(row, ("half", "S")), (("S",),))

    def test_several_names_together(self):
        row = std(("lock", "N", ("pair", "K", "L")), ("lock", "L", "M"))
        self.assertEqual(least_slips(row, "N"), (("K", "L"), ("K", "M"), ("N",)))
        self.assertEqual(least_slips(row, ("pair", "M", "N")), (("K", "M"), ("M", "N")))
        self.assertEqual(least_slips(RING, "A"), (("A",), ("B",), ("C",)))

    def test_things_that_can_be_had_already(self):
        for row, thing in ((ROW, "N"), (ROW, "word"), (std(), "a"), (std(), ("half", "a")), (RING, RING.things[0])):
            self.assertEqual(least_slips(row, thing), ((),))

    def test_things_that_no_names_let_be_had(self):
        self.assertEqual(least_slips(ROW, "Q"), ())
        self.assertEqual(least_slips(std(), "K"), ())
        self.assertEqual(least_slips(std("K", ("lock", "a", "L")), ("pair", "K", "Q")), ())
        self.assertEqual(least_slips(std(("half", "K")), ("half", "L")), ())

    def test_boxes_that_are_no_names(self):
        row = std(("half", ("lock", "a", "K")), ("seal", "b", ("half", "S")))
        self.assertEqual(least_slips(row, ("lock", "a", "K")), (("K",),))
        self.assertEqual(least_slips(row, ("half", "S")), (("S",),))
        self.assertEqual(least_slips(row, ("half", ("lock", "a", "K"))), ((),))

    def test_against_all_sets(self):
        several = 0
        for row in [*some_rows(120, 301), *locked_rows(60, 308)]:
            for thing in asked_things(row)[:8]:
                wanted = least_sets(row.names, lambda names: plain.had(Row(row.book, row.things + names), thing))
                self.assertEqual(least_slips(row, thing), wanted, (row.things, thing))
                several += len(wanted) > 1
        self.assertGreater(several, 40)

    def test_eight_names(self):
        names = "ABCDEFGH"
        key = "a"
        for name in names[1:]:
            key = ("pair", name, key)
        row = std(("lock", "A", key))
        self.assertEqual(least_slips(row, "A"), (("A",), tuple(names[1:])))
        row = std(*[("lock", "A", name) for name in names[1:]])
        self.assertEqual(least_slips(row, "A"), tuple((name,) for name in names))


class LeastShows(unittest.TestCase):
    def test_examples(self):
        self.assertEqual(least_shows(ROW, "N"), ((0, 1, 2),))
        self.assertEqual(least_shows(row=ROW, thing="K"), ((1, 2),))
        self.assertEqual(least_shows(ROW, "S"), ((2,),))
        self.assertEqual(least_shows(std("K", "N", "K"), ("pair", "K", "N")), ((0, 1), (1, 2)))
        self.assertEqual(least_shows(std("K", "K", "K"), "K"), ((0,), (1,), (2,)))

    def test_things_that_can_be_had_of_nothing(self):
        for row in (std(), ROW, RING):
            self.assertEqual(least_shows(row, "word"), ((),))
            self.assertEqual(least_shows(row, ("half", ("mark", "w"))), ((),))

    def test_things_that_cannot_be_had(self):
        self.assertEqual(least_shows(std(), "K"), ())
        self.assertEqual(least_shows(ROW, "Q"), ())
        self.assertEqual(least_shows(RING, "A"), ())

    def test_ways_of_unlike_lengths(self):
        row = std(("pair", "N", "M"), ("lock", "N", "K"), "K", "N", "N")
        self.assertEqual(least_shows(row, "N"), ((0,), (1, 2), (3,), (4,)))

    def test_against_all_sets(self):
        several = 0
        for row in some_rows(200, 302):
            for thing in asked_things(row)[:8]:
                wanted = least_sets(range(len(row)), lambda places: plain.had(row.only(places), thing))
                self.assertEqual(least_shows(row, thing), wanted, (row.things, thing))
                several += len(wanted) > 1
        self.assertGreater(several, 10)

    def test_eight_things(self):
        row = std(*"ABCDEFGH")
        thing = "a"
        for name in "ABCDEFGH":
            thing = ("pair", name, thing)
        self.assertEqual(least_shows(row, thing), (tuple(range(8)),))
        self.assertEqual(least_shows(std(*"KKKKKKKK"), "K"), tuple((at,) for at in range(8)))


class SlipsApart(unittest.TestCase):
    def test_examples(self):
        one = std(("lock", "a", "K"), ("lock", "a", "K"))
        other = std(("lock", "a", "K"), ("lock", "b", "K"))
        self.assertEqual(slips_apart(one, other), ((),))
        one, other = one.only((1,)), other.only((1,))
        self.assertEqual(slips_apart(one, other), (("K",),))
        self.assertEqual(slips_apart(one=one, other=other), (("K",),))

    def test_alike_with_all_names(self):
        self.assertEqual(slips_apart(std(), std()), ())
        self.assertEqual(slips_apart(ROW, ROW), ())
        self.assertEqual(slips_apart(std("a", "K"), std("a", "K")), ())

    def test_unlike_already(self):
        self.assertEqual(slips_apart(std("a"), std("b")), ((),))
        self.assertEqual(slips_apart(std("K", "K"), std("K", "L")), ((),))

    def test_names_that_stand_in_one_of_both(self):
        one, other = std(("lock", "a", "K")), std(("lock", "a", "L"))
        self.assertEqual(slips_apart(one, other), (("K",), ("L",)))
        self.assertEqual(slips_apart(std(("lock", "a", "K")), std("M")), (("K",), ("M",)))
        self.assertEqual(slips_apart(std("K"), std("L")), (("K",), ("L",)))

    def test_several_names_together(self):
        one = std(("lock", ("lock", "a", "K"), "L"), ("lock", "M", "N"))
        other = std(("lock", ("lock", "b", "K"), "L"), ("lock", "M", "N"))
        self.assertEqual(slips_apart(one, other), (("K", "L"),))
        other = std(("lock", ("lock", "b", "K"), "L"), ("lock", "L", "N"))
        # What the second lock holds opens the first one, at the right alone.
        self.assertEqual(slips_apart(one, other), (("K", "L"), ("N",)))

    def test_against_all_sets(self):
        several = 0
        for one, other in some_pairs(250, 303, 3):
            names = sorted({*one.names, *other.names})
            if len(names) > 5:
                continue

            def apart(slipped):
                left, right = (Row(row.book, row.things + slipped) for row in (one, other))
                return plain_alike.picture(left) != plain_alike.picture(right)

            wanted = least_sets(names, apart)
            self.assertEqual(slips_apart(one, other), wanted, (one.things, other.things))
            self.assertEqual(slips_apart(other, one), wanted)
            several += len(wanted) > 1
        self.assertGreater(several, 10)

    def test_eight_names(self):
        one = std(*[("lock", "a", name) for name in "ABCD"])
        other = std(*[("lock", "a", name) for name in "EFGH"])
        self.assertEqual(slips_apart(one, other), tuple((name,) for name in "ABCDEFGH"))

    def test_rows_that_do_not_match(self):
        less = Book(STD.kinds, STD.openings[1:])
        for one, other, part in (
            (std("K"), Row(less, ("K",)), "book"), (std("K"), Row(less, ()), "book"), (std("K"), std(), "things"),
            (std(), std("a"), "things"), (std("K", "L"), std("K"), "things"),
        ):
            with self.assertRaises(Mismatch) as caught:
                slips_apart(one, other)
            self.assertEqual(caught.exception.part, part)
        self.assertEqual(slips_apart(std("K"), Row(standard_book(), ("K",))), ())


class EverySet(unittest.TestCase):
    def test_names(self):
        for row in [*some_rows(60, 304), *locked_rows(40, 309)]:
            for thing in asked_things(row)[:5]:
                told = least_slips(row, thing)
                for many in range(len(row.names) + 1):
                    for names in combinations(row.names, many):
                        within = any(set(least) <= set(names) for least in told)
                        self.assertIs(is_had(row + Row(row.book, names), thing), within)

    def test_places(self):
        for row in some_rows(100, 305):
            for thing in asked_things(row)[:5]:
                told = least_shows(row, thing)
                for many in range(len(row) + 1):
                    for places in combinations(range(len(row)), many):
                        within = any(set(least) <= set(places) for least in told)
                        self.assertIs(is_had(row.only(places), thing), within)

    def test_names_that_part_two_rows(self):
        chance = random.Random(306)
        for one, other in some_pairs(150, 307, 3):
            names = sorted({*one.names, *other.names})
            if len(names) <= 6:
                told = slips_apart(one, other)
                for _ in range(12):
                    slipped = tuple(sorted(chance.sample(names, chance.randrange(len(names) + 1))))
                    within = any(set(least) <= set(slipped) for least in told)
                    behind = Row(one.book, slipped)
                    self.assertIs(is_alike(one + behind, other + behind), not within)
