import random
import unittest
from itertools import combinations

from sealedalike.books import Book, standard_book
from sealedalike.comparing import both_rows, classes, compare, compare_holds, is_alike, least_telling
from sealedalike.errors import Mismatch
from sealedalike.recipes import is_recipe
from sealedalike.rows import Row
from tests import plain_alike
from tests.samples import AWKWARD, ROW, STD, changed_row, nested, some_book, some_pairs, some_row, some_rows

SEALED = ("seal", "K", ("half", "S"))


def std(*things):
    return Row(STD, things)


# Rows that look alike, and rows that do not.
ALIKE = [
    (std(), std()),
    (std("a"), std("a")),
    (std("K"), std("N")),
    (std("K", "K"), std("N", "N")),
    (std("K", "N"), std("N", "K")),
    (std(("lock", "a", "K")), std(("lock", "b", "K"))),
    (std(("lock", "a", "K")), std("M")),
    (std(("lock", "a", "K")), std(("seal", "b", "L"))),
    (std(("lock", ("pair", "N", "a"), "K"), "b"), std(("half", "K"), "b")),
    (std(("seal", "a", "S"), "L"), std(("seal", "N", ("half", "S")), "L")),
    (std(("mark", "K"), ("mark", "K")), std("N", "N")),
    (std(("sign", "a", "S")), std(("sign", "a", "L"))),
    (std(("sign", "a", "S"), ("half", "S")), std(("sign", "a", "L"), ("half", "L"))),
    (std(("lock", "a", "K"), ("lock", "a", "N"), ("lock", "b", "K")), std("A", "B", "C")),
    (std(("half", ("pair", "a", "K")), ("pair", "a", "N")), std(("half", "K"), ("pair", "a", "L"))),
]
UNLIKE = [
    (std("a"), std("b")),
    (std("a"), std("K")),
    (std("K", "K"), std("K", "N")),
    (std(("half", "K"), "K"), std(("half", "N"), "K")),
    (std(("half", "K"), "K"), std(("mark", "K"), "K")),
    (std(("pair", "a", "K")), std("K")),
    (std(("lock", "a", "K"), "K"), std(("lock", "b", "K"), "K")),
    (std(("lock", "a", "K"), "K"), std(("lock", "a", "N"), "K")),
    (std(("lock", "a", "w")), std(("lock", "b", "w"))),
    (std(("lock", "a", "w")), std(("lock", "a", "K"))),
    (std(("lock", "a", "K"), ("lock", "a", "K")), std(("lock", "a", "K"), ("lock", "b", "K"))),
    # Signed things are shown; whether the half is the right one, too.
    (std(("sign", "a", "S")), std(("sign", "b", "S"))),
    (std(("sign", "a", "S")), std(("lock", "a", "S"))),
    (std(("sign", "a", "S"), ("half", "S")), std(("sign", "a", "S"), ("half", "L"))),
    # An inside that finds nothing at one row alone.
    (std(("seal", "K", ("half", "S")), "S"), std(("seal", "K", "S"), "S")),
    (std(("seal", "K", ("half", "S")), "S"), std(("seal", "K", ("mark", "S")), "S")),
    (std(("seal", "K", ("half", "w"))), std(("seal", "K", ("half", "S")))),
    # Needed things that are made.
    (std(("lock", "K", ("pair", "a", "N")), "N"), std(("lock", "K", ("pair", "b", "N")), "N")),
    (std(("lock", "K", ("pair", "a", "N")), "N"), std(("lock", "K", ("pair", "a", "L")), "N")),
]


class Papers(unittest.TestCase):
    def test_examples(self):
        one = std(("lock", "a", "K"), ("lock", "a", "K"))
        other = std(("lock", "a", "K"), ("lock", "b", "K"))
        self.assertEqual(compare(one, other), ("same", (("shown", 0),), (("shown", 1),)))
        self.assertEqual(compare(one=one, other=other), compare(one, other))
        self.assertEqual(compare(std(("lock", "a", "K")), std("M")), ("alike", ((("lock", "a", "K"), "M"),)))
        self.assertEqual(compare(std(), std()), ("alike", ()))

    def test_alike(self):
        for one, other in ALIKE:
            for left, right in ((one, other), (other, one), (one, one), (other, other)):
                self.assertIs(is_alike(left, right), True, (left.things, right.things))
                paper = compare(left, right)
                self.assertEqual(paper[0], "alike")
                self.assertTrue(plain_alike.is_table(left, right, paper[1]))
                self.assertIs(compare_holds(left, right, paper), True)

    def test_unlike(self):
        words = []
        for one, other in UNLIKE:
            for left, right in ((one, other), (other, one)):
                self.assertIs(is_alike(left, right), False, (left.things, right.things))
                paper = compare(left, right)
                words.append(paper[0])
                self.assertTrue(plain_alike.tells_apart(left, right, paper), (left.things, right.things, paper))
                self.assertIs(compare_holds(left, right, paper), True)
                self.assertIs(compare_holds(right, left, paper), True)
        self.assertEqual(set(words), {"same", "comes"})

    def test_openings_that_come_at_one_row_alone(self):
        book = Book((("box", 2), ("c", 1)), (("look", "box", 0, (("inside", 1, "c"),)),))
        one, other = (Row(book, (("box", "A", ("c", "B")), "B")), Row(book, (("box", "A", "D"), "B")))
        self.assertEqual(compare(one, other)[0], "comes")
        self.assertTrue(plain_alike.tells_apart(one, other, compare(one, other)))
        self.assertEqual(compare(other, one)[0], "comes")
        self.assertTrue(plain_alike.tells_apart(other, one, compare(other, one)))

    def test_pairs_made_by_chance(self):
        words = []
        for one, other in some_pairs(1500, 221):
            wanted = plain_alike.picture(one) == plain_alike.picture(other)
            self.assertIs(is_alike(one=one, other=other), wanted, (str(one.book), one.things, other.things))
            self.assertIs(is_alike(other, one), wanted)
            paper = compare(one, other)
            words.append(paper[0])
            self.assertIs(type(paper), tuple)
            self.assertEqual(paper[0] == "alike", wanted)
            if wanted:
                self.assertTrue(plain_alike.is_table(one, other, paper[1]))
            else:
                self.assertTrue(all(is_recipe(one, recipe) for recipe in paper[1:]))
                self.assertTrue(plain_alike.tells_apart(one, other, paper))
            self.assertIs(compare_holds(one, other, paper), True)
            self.assertEqual(compare(one, other), paper)
        self.assertTrue(all(words.count(word) > 30 for word in ("alike", "same", "comes")), words)

    def test_a_row_and_itself(self):
        for row in some_rows(200, 222):
            self.assertIs(is_alike(row, row), True)
            self.assertIs(is_alike(row, Row.read(row.book, str(row))), True)
            word, pairs = compare(row, row)
            self.assertEqual(word, "alike")
            self.assertTrue(all(left == right for left, right in pairs))

    def test_from_one_to_the_next(self):
        chance = random.Random(223)
        both = 0
        for at in range(250):
            one = some_row(STD if at % 2 else some_book(chance), chance)
            other = changed_row(one, chance)
            third = changed_row(other, chance)
            if is_alike(one, other):
                both += is_alike(other, third)
                self.assertIs(is_alike(one, third), is_alike(other, third))
        self.assertGreater(both, 60)

    def test_recipes_are_no_longer_than_needed(self):
        # Each step that is told is one that the last step needs.
        for one, other in some_pairs(400, 224):
            paper = compare(one, other)
            for recipe in paper[1:] if paper[0] != "alike" else ():
                named = {number for step in recipe for number in (step[2] if len(step) == 3 else ())}
                self.assertEqual(named, set(range(len(recipe) - 1)))

    def test_long_ways(self):
        # Each opening gives the key of the next one; only the last lock holds unlike words.
        names = ["K" + str(at) for at in range(9)]
        for last in ("a", "b"):
            things = [("lock", left, right) for left, right in zip([last, *names], names)][::-1]
            row = std(*things, names[-1])
            other = std(*[("lock", "a", names[0]) if thing[2] == names[0] else thing for thing in things], names[-1])
            self.assertIs(is_alike(row, other), last == "a")
            paper = compare(row, other)
            self.assertIs(compare_holds(row, other, paper), True)
            if last == "b":
                self.assertTrue(plain_alike.tells_apart(row, other, paper))

    def test_things_of_any_depth(self):
        def deep(inner):
            return nested(1200, inner, lambda part: ("half", part))

        for left, right, alike in (("K", "N", True), ("a", "a", True), ("a", "b", False)):
            one, other = std(deep(left), left), std(deep(right), right)
            self.assertIs(is_alike(one, other), alike)
            self.assertEqual(classes((one, other, one)), ((0, 1, 2),) if alike else ((0, 2), (1,)))
            self.assertIs(compare_holds(one, other, compare(one, other)), True)
            self.assertEqual(least_telling(one, other), () if alike else ((0,), (1,)))
        one, other = std(deep("K"), "M"), std("L", "M")
        word, pairs = compare(one, other)
        self.assertEqual((word, len(pairs)), ("alike", 2))
        self.assertIs(compare_holds(one, other, (word, pairs)), True)

    def test_arguments_stay(self):
        one, other = UNLIKE[6]
        texts = (str(one), str(other), str(one.book))
        compare(one, other)
        least_telling(one, other)
        classes((one, other))
        self.assertEqual((str(one), str(other), str(one.book)), texts)


class LeastTelling(unittest.TestCase):
    def test_examples(self):
        one = std(("lock", "a", "K"), ("lock", "a", "K"))
        other = std(("lock", "a", "K"), ("lock", "b", "K"))
        self.assertEqual(least_telling(one, other), ((0, 1),))
        self.assertEqual(least_telling(one=one, other=one), ())
        self.assertEqual(least_telling(std(), std()), ())
        self.assertEqual(least_telling(std("a", "K"), std("b", "K")), ((0,),))

    def test_several_sets(self):
        one = std(("lock", "a", "K"), "K", "K", "b", ("lock", ("mark", "a"), "K"))
        other = std(("lock", "b", "K"), "K", "K", "c", ("lock", ("mark", "a"), "K"))
        self.assertEqual(least_telling(one, other), ((0, 1), (0, 2), (3,)))
        self.assertEqual(least_telling(std("K", "K", "K"), std("K", "L", "M")), ((0, 1), (0, 2), (1, 2)))

    def test_alike(self):
        for one, other in ALIKE:
            self.assertEqual(least_telling(one, other), ())
        for one, other in UNLIKE:
            self.assertNotEqual(least_telling(one, other), ())

    def test_against_all_sets(self):
        several = 0
        for one, other in some_pairs(300, 225, 5):
            telling = []
            for many in range(len(one) + 1):
                for places in combinations(range(len(one)), many):
                    apart = plain_alike.picture(one.only(places)) != plain_alike.picture(other.only(places))
                    if apart and not any(set(part) <= set(places) for part in telling):
                        telling.append(places)
            self.assertEqual(least_telling(one, other), tuple(sorted(telling)))
            several += len(telling) > 1
        self.assertGreater(several, 15)

    def test_eight_things(self):
        names = "ABCDEFGH"
        one = std(*names)
        self.assertEqual(least_telling(one, std(*names[:7], "A")), ((0, 7),))
        self.assertEqual(least_telling(one, std(*"AACDEFGG")), ((0, 1), (6, 7)))
        self.assertEqual(len(least_telling(one, std(*"AAAAAAAA"))), 28)

    def test_eight_things_that_are_all_needed(self):
        chain = ("A", ("lock", "B", "A"), ("lock", "C", "B"), ("lock", "D", "C"), ("lock", "E", "D"), ("lock", "F", "E"),
                 ("lock", "G", "F"))
        one, other = std(*chain, ("lock", "a", "G")), std(*chain, ("lock", "b", "G"))
        self.assertEqual(least_telling(one, other), ((0, 1, 2, 3, 4, 5, 6, 7),))
        self.assertEqual(least_telling(other, one), ((0, 1, 2, 3, 4, 5, 6, 7),))
        self.assertEqual(least_telling(one, one), ())
        # In whatever order they are shown.
        one, other = std(*one.things[::-1]), std(*other.things[::-1])
        self.assertEqual(least_telling(one, other), ((0, 1, 2, 3, 4, 5, 6, 7),))

    def test_chains_of_keys(self):
        names = "ABCDEFGH"
        for many in range(1, 9):
            chain = ["A", *[("lock", names[at + 1], names[at]) for at in range(many - 1)]]
            one, other = std(*chain[:-1], ("lock", "a", names[many - 2])), std(*chain[:-1], ("lock", "b", names[many - 2]))
            if many > 1:
                self.assertEqual(least_telling(one, other), (tuple(range(many)),))
            self.assertEqual(least_telling(std(*chain), std(*chain)), ())

    def test_several_ways_to_a_key(self):
        ways = ["K", "K", ("lock", "K", "L"), ("seal", "K", ("half", "S")), "L", "S"]
        one, other = std(*ways, ("lock", "a", "K"), "M"), std(*ways, ("lock", "b", "K"), "M")
        self.assertEqual(least_telling(one, other), ((0, 6), (1, 6), (2, 4, 6), (3, 5, 6)))
        ends = [("lock", "K", "L"), ("lock", "L", "M"), "M"]
        one = std(*ends, ("lock", "a", "K"), *ends, ("lock", "a", "K"))
        other = std(*ends, ("lock", "b", "K"), *ends, ("lock", "b", "K"))
        self.assertEqual(len(least_telling(one, other)), 16)
        self.assertEqual(least_telling(one, other)[0], (0, 1, 2, 3))
        self.assertEqual(least_telling(one, other)[-1], (4, 5, 6, 7))

    def test_eight_things_against_likeness(self):
        chance = random.Random(227)
        several = 0
        for at in range(60):
            row = some_row([STD, AWKWARD, some_book(chance)][at % 3], chance, 5)
            row = Row(row.book, (*row.things, *chance.choices(row.pieces or ("K",), k=8))[:8])
            other = changed_row(row, chance)
            telling = []
            for many in range(9):
                for places in combinations(range(8), many):
                    if not any(set(part) <= set(places) for part in telling):
                        if not is_alike(row.only(places), other.only(places)):
                            telling.append(places)
            self.assertEqual(least_telling(row, other), tuple(sorted(telling)), (str(row.book), row.things, other.things))
            several += len(telling) > 1
        self.assertGreater(several, 15)


class SideBySide(unittest.TestCase):
    def test_how_many_things_tell(self):
        chance = random.Random(228)
        answers = []
        for one, other in some_pairs(250, 229, 5):
            both = both_rows(one, other)
            wanted = [
                many for many in range(1, len(one) + 1)
                if plain_alike.picture(one.only(range(many))) != plain_alike.picture(other.only(range(many)))
            ]
            answers.append(both.pairing().told_at(both.shown))
            self.assertEqual(answers[-1], wanted[0] if wanted else None, (str(one.book), one.things, other.things))
            self.assertIs(both.are_alike(), not wanted)
            # In another order fewer or more of them may tell, but all of them tell the same.
            turned = both.pairing().told_at(chance.sample(both.shown, len(both.shown)))
            self.assertEqual(turned is None, not wanted)
        self.assertTrue(answers.count(None) > 60 and answers.count(1) > 20 and len(set(answers)) > 3)

    def test_a_pairing_again(self):
        one, other = std(("lock", "a", "K"), "K"), std(("lock", "b", "K"), "K")
        both = both_rows(one, other)
        words = both.pairing()
        for _ in range(3):
            self.assertEqual(words.again().told_at(both.shown), 2)
            self.assertEqual(words.again().told_at(both.shown[::-1]), 2)
            self.assertIsNone(words.again().told_at(both.shown[:1]))
            self.assertIsNone(words.again().told_at(both.shown[1:]))
            self.assertIsNone(words.again().told_at([]))


class Classes(unittest.TestCase):
    def test_examples(self):
        self.assertEqual(classes(()), ())
        self.assertEqual(classes((ROW,)), ((0,),))
        self.assertEqual(classes(rows=(std("K"), std("a"), std("N"), std("b"), std("a"))), ((0, 2), (1, 4), (3,)))
        self.assertEqual(classes((std(), std(), std())), ((0, 1, 2),))

    def test_words_and_numbers_of_boxes_are_unlike(self):
        rows = (std("K", "a"), std("a", "K"), std("K", "K"), std("K", "L"), std("M", "b"))
        self.assertEqual(classes(rows), ((0,), (1,), (2,), (3,), (4,)))

    def test_against_each_two(self):
        chance = random.Random(226)
        several = 0
        for at in range(60):
            row = some_row([STD, AWKWARD, some_book(chance)][at % 3], chance, 3)
            rows = [row]
            for _ in range(6):
                rows.append(changed_row(chance.choice(rows), chance))
            wanted = []
            for index, row in enumerate(rows):
                known = [places for places in wanted if is_alike(rows[places[0]], row)]
                if known:
                    known[0].append(index)
                else:
                    wanted.append([index])
            self.assertEqual(classes(tuple(rows)), tuple(map(tuple, wanted)))
            several += len(wanted) > 1
        self.assertGreater(several, 20)


class RowsThatDoNotMatch(unittest.TestCase):
    def refused(self, one, other, part):
        for called in (is_alike, compare, least_telling):
            with self.assertRaises(Mismatch) as caught:
                called(one, other)
            self.assertEqual(caught.exception.part, part)
        for thing in (("alike", ()), ("comes", (("shown", 0),)), ("same", (("shown", 0),), (("word", "a"),)), None):
            self.assertIs(compare_holds(one, other, thing), False)

    def test_books(self):
        less = Book(STD.kinds, STD.openings[1:])
        for things in ((), ("K",), (("half", "K"), "a")):
            self.refused(Row(STD, things), Row(less, things), "book")
            self.refused(Row(less, things), Row(STD, things), "book")
        self.refused(std("K"), Row(less, ("K", "K")), "book")
        self.refused(std(), Row(AWKWARD, ("K",)), "book")

    def test_numbers_of_things(self):
        for one, other in ((std(), std("a")), (std("K"), std("K", "K")), (ROW, std(*ROW.things[:2]))):
            self.refused(one, other, "things")
            self.refused(other, one, "things")

    def test_equal_books_made_anew_match(self):
        for book in (standard_book(), Book.read(str(STD)), Book(STD.kinds, STD.openings)):
            one, other = (std(("lock", "a", "K")), Row(book, (("lock", "b", "K"),)))
            self.assertIs(is_alike(one, other), True)
            self.assertEqual(compare(one, other)[0], "alike")
            self.assertEqual(least_telling(one, other), ())
            self.assertEqual(classes((one, other)), ((0, 1),))
            self.assertIs(compare_holds(one, other, compare(one, other)), True)
