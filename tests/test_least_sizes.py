import unittest

from sealedalike.books import Book
from sealedalike.errors import NotHad
from sealedalike.having import is_had, judge_holds, least_size, recipe_for
from sealedalike.recipes import is_recipe, value_of, written_size
from sealedalike.rows import Row
from tests import plain
from tests.samples import AWKWARD, RING, ROW, STD, asked_things, nested, some_rows


def row_of(*things):
    return Row(STD, things)


class LeastSizes(unittest.TestCase):
    def sizes(self, row, wanted):
        for thing, size in wanted.items():
            self.assertEqual(least_size(row, thing), size, (row.things, thing))
            recipe = recipe_for(row, thing)
            self.assertTrue(is_recipe(row, recipe))
            self.assertEqual(value_of(row, recipe), thing)
            self.assertEqual(written_size(recipe), size)

    def test_example(self):
        self.sizes(ROW, {"N": 6, "K": 3, ("pair", "a", "N"): 5, "a": 1, "S": 1, ("half", "S"): 2, "zzz": 1})
        self.assertEqual(least_size(row=ROW, thing="N"), 6)
        self.assertEqual(written_size(recipe_for(row=ROW, thing="N")), 6)

    def test_words_are_at_hand(self):
        self.sizes(row_of(("pair", "a", "K")), {"a": 1, "K": 2})
        self.sizes(row_of(), {"a": 1, ("pair", "a", "a"): 3, ("half", ("half", "a")): 3})

    def test_shown_again_or_made(self):
        self.sizes(row_of("K", ("lock", "a", "K")), {("lock", "a", "K"): 1})
        self.sizes(row_of("K", ("lock", ("mark", "K"), "K")), {("mark", "K"): 2})
        self.sizes(row_of("K", ("pair", ("lock", "a", "K"), "b")), {("lock", "a", "K"): 2})

    def test_the_least_of_several_ways(self):
        deep = nested(5, "N", lambda inner: ("pair", inner, "a"))
        self.sizes(row_of(deep), {"N": 6})
        self.sizes(row_of(deep, ("lock", "N", "b")), {"N": 3})
        self.sizes(row_of(deep, ("lock", "N", ("pair", "b", "b"))), {"N": 5})
        self.sizes(row_of(deep, ("lock", "N", ("pair", "b", ("pair", "b", "b")))), {"N": 6})
        self.sizes(row_of(deep, "N"), {"N": 1})

    def test_what_is_needed_is_made_of_got_things(self):
        key = ("pair", "K", ("half", "b"))
        self.sizes(row_of(("lock", "N", key), ("pair", "K", "c")), {"N": 7, key: 5})
        self.sizes(row_of(("sign", "N", ("half", "S")), "S"), {"N": 2})
        book = Book((("half", 1), ("sign", 2)), (("signed", "sign", 0, (("around", "half", 1),)),))
        self.sizes(Row(book, (("sign", "N", "S"), "S")), {"N": 4})
        self.sizes(Row(book, (("sign", "N", "S"), ("half", "S"))), {"N": 3})
        self.sizes(Row(book, (("sign", "N", ("half", "a")),)), {"N": 5})

    def test_sizes_double_from_lock_to_lock(self):
        names = [f"K{at}" for at in range(10)]
        locks = tuple(("lock", other, ("pair", name, name)) for name, other in zip(names, names[1:]))
        row = row_of("K0", *locks)
        size = 1
        for name in names:
            self.sizes(row, {name: size})
            size = 2 * size + 3
        inner = "N"
        for at in reversed(range(10)):
            inner = ("lock", ("pair", f"K{at + 1}", inner), ("pair", f"K{at}", f"K{at}"))
        row = row_of("K0", inner)
        size, opened = 1, 1
        for at in range(1, 11):
            opened = opened + (1 if at > 1 else 0) + 2 * size + 2
            size = opened + 1
            self.sizes(row, {f"K{at}": size})
        self.sizes(row, {"N": size})
        self.assertGreater(size, 2 ** 10)

    def test_large_numbers(self):
        names = [f"K{at}" for at in range(101)]
        book = Book((("lock", 3), ("trio", 3)), (("take", "lock", 0, (("part", 1), ("part", 2))),))
        three = [("trio", name, name, name) for name in names]
        row = Row(book, ("K0", *[("lock", names[at + 1], three[at], three[at]) for at in range(100)]))
        size = 1
        for at in range(100):
            size = 2 + 2 * (1 + 3 * size)
        self.assertEqual(least_size(row, "K100"), size)
        self.assertEqual(written_size(recipe_for(row, "K100")), size)

    def test_not_had(self):
        for row, thing in ((RING, "A"), (row_of(), "K"), (ROW, ("pair", "a", "Q")), (row_of(("seal", "K", "S"), "S"), "K")):
            for called in (least_size, recipe_for):
                with self.assertRaises(NotHad) as caught:
                    called(row, thing)
                self.assertEqual(caught.exception.paper[0], "closed")
                self.assertIs(judge_holds(row, thing, caught.exception.paper), True)

    def test_against_all_small_recipes(self):
        for row in some_rows(120, 71):
            found = plain.least_sizes(row, ("a", "b"), 4)
            asked = [*asked_things(row), *list(found)[:60], *list(found)[-40:]]
            for thing in asked:
                if thing in found:
                    self.assertEqual(least_size(row, thing), found[thing], (row.things, thing))
                elif is_had(row, thing) and not set(plain.pieces(thing)) & {"half", "z"}:
                    self.assertGreater(least_size(row, thing), 4)

    def test_longer_recipes_of_a_small_book(self):
        book = Book(
            (("h", 1), ("k", 2)),
            (("a", "k", 0, (("part", 1),)), ("b", "k", 0, (("around", "h", 1),)), ("c", "k", 1, (("inside", 0, "h"),))),
        )
        for things in (
            (("k", "N", "K"), ("k", ("h", "a"), "K")), (("k", "N", ("h", "K")), ("k", "K", "a")), (("k", "N", "N"),),
            (("k", ("k", "N", ("k", "K", "K")), ("h", "K")), "K"), (("k", ("h", "K"), "N"), ("k", "K", ("h", "a"))),
            (("k", "K", ("k", "a", "a")), ("k", "N", ("k", "K", "K"))),
        ):
            row = Row(book, things)
            found = plain.least_sizes(row, ("a",), 9)
            for thing, size in found.items():
                if plain.size(thing) < 6:
                    self.assertEqual(least_size(row, thing), size, (things, thing))
            for piece in row.pieces:
                if piece not in found and is_had(row, piece):
                    self.assertGreater(least_size(row, piece), 9)

    def test_recipes_have_just_this_size(self):
        for row in [*some_rows(200, 72), RING.with_thing("C")]:
            for thing in asked_things(row):
                if plain.had(row, thing):
                    recipe = recipe_for(row, thing)
                    self.assertTrue(is_recipe(row, recipe))
                    self.assertEqual(plain.value(row, recipe), thing)
                    self.assertEqual(plain.written_out(recipe), least_size(row, thing))
                    self.assertEqual(recipe_for(row, thing), recipe)

    def test_awkward_words(self):
        row = Row(AWKWARD, (("inside", "a", "N"), ("opening", ("part", "kind"), "b", "M"), "N"))
        self.sizes(row, {"N": 1, "M": 5, "kind": 1, ("kind", "opening"): 2})
        self.assertEqual(least_size(Row(AWKWARD, (("h", ("h", "N")),)), "N"), 3)
