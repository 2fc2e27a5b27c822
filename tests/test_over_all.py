"""What the document says of all rows over several modules."""

import random
import unittest

from sealedalike.counting import how_many, things_of
from sealedalike.having import (
    basis, got_things, had_pieces, has_all, is_had, judge, judge_holds, least_size, recipe_for,
)
from sealedalike.recipes import is_recipe, read_recipe, recipe_text, value_of, written_size
from sealedalike.rows import Row
from sealedalike.things import replaced
from tests import plain
from tests.samples import RING, ROW, STD, asked_things, some_rows


def sizes_of(row, things):
    return {thing: least_size(row, thing) for thing in things if is_had(row, thing)}


class Bases(unittest.TestCase):
    def test_rows_with_equal_bases(self):
        for row in some_rows(150, 91):
            chance = random.Random(92)
            shuffled = list(got_things(row))
            chance.shuffle(shuffled)
            for other in (
                Row(row.book, basis(row)), Row(row.book, tuple(shuffled)), Row(row.book, had_pieces(row)),
                row + row, Row(row.book, row.things[::-1]),
            ):
                self.assertEqual(basis(other), basis(row))
                self.assertTrue(has_all(row, other) and has_all(other, row))
                for thing in asked_things(row):
                    self.assertIs(is_had(other, thing), is_had(row, thing))
                for size in (1, 2, 3):
                    self.assertEqual(how_many(other, ("a",), size), how_many(row, ("a",), size))
                    self.assertEqual(things_of(other, ("a",), size), things_of(row, ("a",), size))

    def test_rows_with_unlike_bases(self):
        rows = [row for row in some_rows(120, 93) if row.book == STD]
        unlike = 0
        for row in rows:
            for other in rows[:20]:
                equal = basis(row) == basis(other)
                unlike += not equal
                self.assertIs(has_all(row, other) and has_all(other, row), equal)
                lacking = [thing for thing in basis(row) if not is_had(other, thing)]
                lacking += [thing for thing in basis(other) if not is_had(row, thing)]
                self.assertIs(lacking == [], equal)
                if equal:
                    self.assertEqual(things_of(row, ("b",), 3), things_of(other, ("b",), 3))
        self.assertGreater(unlike, 100)

    def test_examples(self):
        one = Row(STD, (("pair", "K", ("lock", "N", "K")), "a"))
        other = Row(STD, ("N", ("half", "N"), "K"))
        self.assertEqual(basis(one), ("K", "N"))
        self.assertEqual(basis(other), ("K", "N"))
        self.assertEqual(how_many(one, (), 5), how_many(other, (), 5))


class Sizes(unittest.TestCase):
    def test_no_size_grows_as_more_is_shown(self):
        for row in some_rows(150, 94):
            things = asked_things(row)
            sizes = sizes_of(row, things)
            for more in (row.with_thing("K"), row + row, Row(row.book, ("S", *row.things)), row.with_thing(things[0])):
                grown = sizes_of(more, things)
                for thing, size in sizes.items():
                    self.assertLessEqual(grown[thing], size)

    def test_the_order_does_not_matter(self):
        chance = random.Random(95)
        for row in some_rows(150, 96):
            shuffled = list(row.things)
            chance.shuffle(shuffled)
            things = asked_things(row)
            self.assertEqual(sizes_of(Row(row.book, tuple(shuffled)), things), sizes_of(row, things))
            self.assertEqual(sizes_of(row + row, things), sizes_of(row, things))

    def test_a_thing_shown_has_size_one(self):
        for row in some_rows(100, 97):
            for thing in row:
                self.assertEqual(least_size(row, thing), 1)
                self.assertEqual(len(recipe_for(row, thing)), 1)

    def test_making_and_opening(self):
        for row in some_rows(150, 98):
            sizes = sizes_of(row, asked_things(row))
            for kind, many in row.book.kinds:
                for thing, size in list(sizes.items())[:6]:
                    parts = [thing, "K", "a"][:many]
                    if all(is_had(row, part) for part in parts):
                        made = least_size(row, (kind, *parts))
                        self.assertLessEqual(made, 1 + sum(least_size(row, part) for part in parts))
            for thing, size in sizes.items():
                for _, needed, given in plain.openings_at(row.book, thing):
                    if all(is_had(row, key) for key in needed):
                        self.assertLessEqual(least_size(row, given), 1 + size + sum(least_size(row, key) for key in needed))


class Together(unittest.TestCase):
    def test_recipes_may_be_written_and_read(self):
        for row in [ROW, RING.with_thing("A"), *some_rows(80, 99)]:
            for thing in asked_things(row):
                word, recipe = judge(row, thing)
                if word == "had":
                    again = read_recipe(recipe_text(recipe))
                    self.assertEqual(again, recipe)
                    self.assertTrue(judge_holds(row, thing, ("had", again)))
                    self.assertEqual(written_size(again), least_size(row, thing))

    def test_rows_from_their_texts_tell_the_same(self):
        for row in some_rows(80, 100):
            again = Row.read(row.book, str(row))
            self.assertEqual(got_things(again), got_things(row))
            for thing in asked_things(row):
                self.assertEqual(judge(again, thing), judge(row, thing))

    def test_recipes_for_a_row_hold_for_more_and_for_replaced_names(self):
        for row in some_rows(80, 101):
            for thing in asked_things(row):
                word, recipe = judge(row, thing)
                if word == "had":
                    more = row.with_thing("Q")
                    self.assertTrue(is_recipe(more, recipe))
                    self.assertEqual(value_of(more, recipe), thing)
                    changed = replaced(thing, "K", "Q")
                    self.assertEqual(value_of(row.replaced("K", "Q"), recipe), changed)
