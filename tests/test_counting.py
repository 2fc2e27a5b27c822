import unittest

from sealedalike.books import Book
from sealedalike.counting import how_many, things_of
from sealedalike.having import basis, is_had
from sealedalike.rows import Row
from sealedalike.things import size_of
from tests import plain
from tests.samples import RING, ROW, STD, some_rows

EIGHT = ("a", "b", "c", "d", "e", "f", "g", "h")


def row_of(*things):
    return Row(STD, things)


class HowMany(unittest.TestCase):
    def test_example(self):
        self.assertEqual(how_many(row_of("K"), ("a",), 2), 4)
        self.assertEqual(how_many(row=row_of("K"), words=("a",), size=2), 4)
        self.assertEqual(things_of(row_of("K"), ("a",), 2), (("half", "K"), ("half", "a"), ("mark", "K"), ("mark", "a")))
        self.assertEqual(things_of(row=row_of("K"), words=("a",), size=1), ("K", "a"))

    def test_rows_without_things(self):
        for size in range(1, 10):
            self.assertEqual(how_many(row_of(), (), size), 0)
            self.assertEqual(things_of(row_of(), (), size), ())
        self.assertEqual([how_many(row_of(), ("a", "b"), size) for size in (1, 2, 3)], [2, 4, 2 * 4 + 4 * 2 * 2])

    def test_no_size(self):
        for size in (0, -1, -30):
            self.assertEqual(how_many(ROW, EIGHT, size), 0)
            self.assertEqual(things_of(ROW, EIGHT, size), ())

    def test_what_stands_within_a_basic_thing_does_not_matter(self):
        row = row_of(("lock", ("pair", "a", "b"), "K"))
        self.assertEqual([how_many(row, (), size) for size in range(1, 8)], [0, 0, 0, 0, 1, 2, 4])
        self.assertEqual(things_of(row, (), 5), (("lock", ("pair", "a", "b"), "K"),))
        self.assertEqual(things_of(row, ("z",), 5)[-1], ("sign", "z", ("sign", "z", "z")))
        self.assertIn(row.things[0], things_of(row, ("z",), 5))
        self.assertNotIn(("mark", "a"), things_of(row, ("z",), 2))

    def test_shown_words_do_not_count(self):
        self.assertEqual(how_many(row_of("a", ("half", "b")), (), 1), 0)
        self.assertEqual(things_of(row_of("a", "K", ("half", "b")), ("c",), 1), ("K", "c"))

    def test_things_that_are_made_are_not_counted_twice(self):
        row = row_of("K", ("lock", "a", "K"), ("half", "K"))
        self.assertEqual(how_many(row, ("a",), 3), how_many(row_of("K"), ("a",), 3))
        self.assertEqual(things_of(row, ("a",), 3), things_of(row_of("K"), ("a",), 3))
        self.assertEqual(how_many(row_of("K", "K"), (), 1), 1)

    def test_three_parts(self):
        book = Book((("trio", 3),), ())
        row = Row(book, ())
        self.assertEqual([how_many(row, ("a",), size) for size in range(1, 15)], [1, 0, 0, 1, 0, 0, 3, 0, 0, 12, 0, 0, 55, 0])
        self.assertEqual(things_of(row, ("a", "b"), 4)[0], ("trio", "a", "a", "a"))
        self.assertEqual(len(things_of(row, ("a", "b"), 4)), 8)

    def test_against_a_plain_function(self):
        for row in some_rows(120, 81):
            for words in ((), ("a",), ("b", "z")):
                for size, things in plain.over(row, words, 4).items():
                    self.assertEqual(how_many(row, words, size), len(things), (row.things, words, size))
                    if len(things) < 1500:
                        self.assertEqual(things_of(row, words, size), plain.ascending(things))

    def test_longer_things_of_small_books(self):
        for kinds in ((("h", 1),), (("p", 2),), (("t", 3),), (("h", 1), ("t", 3)), (("p", 2), ("q", 2)), (("p", 2), ("t", 3))):
            book = Book(kinds, ())
            for things in ((), ("K",), (kinds[0][:1] + ("K",) * kinds[0][1],)):
                row = Row(book, things)
                for size, all_things in plain.over(row, ("a",), 8).items():
                    self.assertEqual(how_many(row, ("a",), size), len(all_things))
                    self.assertEqual(things_of(row, ("a",), size), plain.ascending(all_things))

    def test_large_sizes(self):
        book = Book((("p", 2),), ())
        catalan, steps = 1, 14
        for at in range(steps):
            catalan = catalan * 2 * (2 * at + 1) // (at + 2)
        self.assertEqual(how_many(Row(book, ()), ("a",), 29), catalan)
        self.assertEqual(how_many(Row(book, ()), EIGHT, 29), catalan * 8 ** 15)
        self.assertEqual(how_many(Row(book, ()), EIGHT, 30), 0)
        kinds = tuple((kind, 1) for kind in EIGHT)
        self.assertEqual(how_many(Row(Book(kinds, ()), ()), EIGHT, 30), 8 ** 30)
        self.assertGreater(how_many(row_of("K", "N"), EIGHT, 30), 10 ** 20)

    def test_few_large_things_beside_many_of_lesser_sizes(self):
        book = Book((("p", 2),), ())
        self.assertEqual(things_of(Row(book, ()), EIGHT, 30), ())
        big = ("p", "K", "L")
        for _ in range(11):
            big = ("p", big, "L")
        row = Row(Book((("p", 2), ("t", 3)), ()), (big,))
        self.assertEqual(plain.size(big), 25)
        self.assertEqual(things_of(row, (), 25), (big,))
        self.assertEqual(things_of(row, (), 30), ())
        row = Row(Book((("t", 3),), ()), (("t", "K", "L", "M"), ("t", ("t", "K", "L", "M"), "K", "L")))
        self.assertEqual(len(things_of(row, (), 13)), 1)
        single = Row(Book((("h", 1),), ()), ("K",))
        self.assertEqual(things_of(single, (), 30)[0], ("h",) + (things_of(single, (), 29)[0],))

    def test_basic_things_larger_than_the_size(self):
        row = row_of(("lock", ("pair", ("pair", "a", "b"), ("pair", "a", "b")), "K"))
        self.assertEqual(things_of(row, ("a",), 3), things_of(row_of(), ("a",), 3))
        self.assertEqual(how_many(row, (), 8), 0)
        self.assertEqual(how_many(row, (), 9), 1)

    def test_all_can_be_had(self):
        for row in [ROW, RING, *some_rows(30, 82)]:
            for size in (1, 2, 3):
                things = things_of(row, ("a", "b"), size)
                self.assertEqual(len(things), how_many(row, ("a", "b"), size))
                self.assertEqual(things, plain.ascending(things))
                for thing in things[:40]:
                    self.assertTrue(is_had(row, thing))
                    self.assertEqual(size_of(thing), size)

    def test_nothing_changes(self):
        row = Row(STD, ROW.things)
        self.assertEqual(things_of(row, ("a",), 3), things_of(row, ("a",), 3))
        self.assertEqual(vars(row), vars(ROW))
        self.assertEqual(basis(row), basis(ROW))
