"""What the document says of all rows that are alike, and of all that are not."""

import random
import unittest

from sealedalike.comparing import classes, compare, compare_holds, is_alike, least_telling
from sealedalike.having import had_pieces
from sealedalike.pictures import boxes_of, picture, shape_of
from sealedalike.recipes import is_recipe, value_of
from sealedalike.rows import Row
from sealedalike.things import text_of
from sealedalike.whatever import judge_name, name_holds, tells_nothing
from tests import plain, plain_alike
from tests.samples import STD, asked_things, changed_row, some_book, some_pairs, some_recipe, some_row, some_rows

def alike_pairs(many, seed):
    return [(one, other) for one, other in some_pairs(many, seed) if is_alike(one, other)]


def unlike_pairs(many, seed):
    return [(one, other) for one, other in some_pairs(many, seed) if not is_alike(one, other)]


def with_other_names(row):
    """The row with names that no row of the samples has."""
    others = [name + "x" for name in row.names]
    return row.renamed(tuple(zip(row.names, others)))


class Recipes(unittest.TestCase):
    def test_recipes_come_at_both_or_at_neither(self):
        chance = random.Random(261)
        came = failed = 0
        for one, other in alike_pairs(400, 262):
            table = compare(one, other)[1]
            for _ in range(8):
                recipe = some_recipe(one, chance, chance.randint(1, 8))
                left, right = value_of(one, recipe), value_of(other, recipe)
                self.assertIs(left is None, right is None, (one.things, other.things, recipe))
                failed += left is None
                came += left is not None
                if left is not None:
                    self.assertEqual(plain_alike.partner(table, left), right)
                    self.assertEqual(plain_alike.partner(plain_alike.turned(table), right), left)
                    self.assertEqual(shape_of(one, left), shape_of(other, right))
                    self.assertTrue(is_alike(one.with_thing(left), other.with_thing(right)))
        self.assertTrue(came > 500 and failed > 100)

    def test_what_two_recipes_give_one_of_each(self):
        chance = random.Random(263)
        answers = []
        for one, other in alike_pairs(300, 264):
            recipes = [some_recipe(one, chance, chance.randint(1, 6)) for _ in range(5)]
            recipes = [recipe for recipe in recipes if value_of(one, recipe) is not None]
            for first in recipes:
                for second in recipes:
                    more = one.with_thing(value_of(one, first)), other.with_thing(value_of(other, second))
                    answers.append(is_alike(*more))
                    self.assertIs(answers[-1], value_of(one, first) == value_of(one, second))
                    self.assertIs(answers[-1], value_of(other, first) == value_of(other, second))
        self.assertTrue(answers.count(False) > 200)

    def test_no_small_recipe_tells_alike_rows_apart(self):
        for one, other in alike_pairs(300, 265):
            if len(one.book.kinds) * len(one) <= 18:
                self.assertFalse(plain_alike.told_within(one, other, ("a",), 4), (one.things, other.things))

    def test_a_small_recipe_tells_most_unlike_rows_apart(self):
        told = untold = 0
        for one, other in unlike_pairs(300, 266):
            apart = plain_alike.told_within(one, other, ("a", "b"), 4)
            told += apart
            untold += not apart
        self.assertTrue(told > 5 * untold, (told, untold))

    def test_one_recipe_for_each_two_unlike_pictures(self):
        for one, other in unlike_pairs(500, 267):
            paper = compare(one, other)
            self.assertNotEqual(picture(one), picture(other))
            self.assertTrue(plain_alike.tells_apart(one, other, paper))


class OtherNames(unittest.TestCase):
    def test_names_put_one_to_one(self):
        chance = random.Random(268)
        for one, other in some_pairs(300, 269):
            names = chance.sample(["A", "K", "L", "N", "S", "Z9", "Q", "R"], len(other.names))
            pairs = tuple(zip(other.names, names))
            renamed = other.renamed(pairs)
            self.assertEqual(picture(renamed), picture(other))
            self.assertIs(is_alike(one, renamed), is_alike(one, other))
            self.assertTrue(is_alike(other, renamed))
            self.assertEqual(least_telling(one, renamed), least_telling(one, other))
            paper = compare(one, other)
            if paper[0] == "alike":
                there = dict(pairs)

                def changed(thing):
                    if isinstance(thing, tuple):
                        return (thing[0], *[changed(part) for part in thing[1:]])
                    return there.get(thing, thing)

                table = tuple((left, changed(right)) for left, right in paper[1])
                self.assertTrue(compare_holds(one, renamed, ("alike", table)))
                self.assertEqual(compare_holds(one, other, ("alike", table)), table == paper[1])
            else:
                self.assertTrue(compare_holds(one, renamed, paper))


class OtherOrders(unittest.TestCase):
    def test_things_in_another_order(self):
        chance = random.Random(270)
        for one, other in some_pairs(300, 271):
            places = chance.sample(range(len(one)), len(one))
            left, right = one.only(places), other.only(places)
            self.assertIs(is_alike(left, right), is_alike(one, other))
            paper = compare(one, other)
            if paper[0] == "alike":
                self.assertTrue(compare_holds(left, right, paper))
            else:
                moved = [tuple(("shown", places.index(step[1])) if step[0] == "shown" else step for step in recipe)
                         for recipe in paper[1:]]
                self.assertTrue(compare_holds(left, right, (paper[0], *moved)))
            sets = [tuple(sorted(places.index(place) for place in told)) for told in least_telling(one, other)]
            self.assertEqual(least_telling(left, right), tuple(sorted(sets)))

    def test_things_shown_twice(self):
        for one, other in some_pairs(200, 272):
            for more in ((one + one, other + other), (Row(one.book, one.things + one.things[:1]),
                                                     Row(one.book, other.things + other.things[:1]))):
                self.assertIs(is_alike(*more), is_alike(one, other))
                paper = compare(one, other)
                self.assertTrue(compare_holds(*more, paper))
                self.assertEqual(least_telling(*more)[:1] == (), is_alike(one, other))

    def test_fewer_things(self):
        for one, other in alike_pairs(200, 273):
            for number in range(2 ** len(one)):
                places = [place for place in range(len(one)) if number >> place & 1]
                self.assertTrue(is_alike(one.only(places), other.only(places)))


class BehindOneAnother(unittest.TestCase):
    def test_rows_without_a_common_name(self):
        chance = random.Random(274)
        answers = []
        for at in range(200):
            book = STD if at % 2 else some_book(chance)
            one, third = some_row(book, chance, 3), with_other_names(some_row(book, chance, 3))
            other, fourth = changed_row(one, chance), changed_row(third, chance)
            if set(one.names + other.names) & set(third.names + fourth.names):
                fourth = with_other_names(fourth)
            if set(one.names + other.names) & set(third.names + fourth.names):
                continue
            answers.append((is_alike(one, other), is_alike(third, fourth)))
            self.assertIs(is_alike(one + third, other + fourth), answers[-1] == (True, True))
            boxes = {*boxes_of(one), *boxes_of(third)}
            self.assertEqual(set(boxes_of(one + third)), boxes)
            behind = [tuple(place + len(one) for place in told) for told in least_telling(third, fourth)]
            wanted = tuple(sorted([*least_telling(one, other), *behind]))
            self.assertEqual(least_telling(one + third, other + fourth), wanted)
        self.assertEqual(len(set(answers)), 4)

    def test_papers_stay_with_things_behind(self):
        chance = random.Random(275)
        for one, other in unlike_pairs(300, 276):
            paper = compare(one, other)
            things = asked_things(one)
            for _ in range(3):
                left, right = (Row(one.book, tuple(chance.choices(things, k=2))) for _ in range(2))
                self.assertTrue(compare_holds(one + left, other + right, paper))
                self.assertFalse(is_alike(one + left, other + right))
                self.assertTrue(all(is_recipe(one + left, recipe) for recipe in paper[1:]))

    def test_two_alike_rows_behind_alike_rows(self):
        for (one, other), (third, fourth) in zip(alike_pairs(200, 277), alike_pairs(200, 278)):
            if one.book == third.book:
                third, fourth = with_other_names(third), with_other_names(fourth)
                self.assertTrue(is_alike(one + third, other + fourth))


class LikenessAndPapers(unittest.TestCase):
    def test_one_of_both_papers(self):
        for one, other in some_pairs(400, 279):
            paper = compare(one, other)
            self.assertEqual(paper[0] == "alike", is_alike(one, other))
            self.assertEqual(least_telling(one, other) == (), is_alike(one, other))
            self.assertEqual(len(classes((one, other))), 1 if is_alike(one, other) else 2)
            table = tuple(zip(boxes_of(one), boxes_of(other)))
            table = tuple(sorted(table, key=lambda pair: text_of(pair[0])))
            fits = len(boxes_of(one)) == len(boxes_of(other)) and compare_holds(one, other, ("alike", table))
            self.assertEqual(fits, is_alike(one, other))

    def test_no_table_at_unlike_rows(self):
        chance = random.Random(280)
        for one, other in unlike_pairs(300, 281):
            boxes = list(zip(boxes_of(one), boxes_of(other)))
            for _ in range(4):
                some = dict(chance.sample(boxes, chance.randrange(len(boxes) + 1)))
                table = tuple((thing, some[thing]) for thing in plain.ascending(some))
                self.assertFalse(compare_holds(one, other, ("alike", table)))


class Names(unittest.TestCase):
    def test_with_things_that_can_be_had(self):
        chance = random.Random(282)
        words = []
        for row in some_rows(150, 283):
            kind, count = row.book.kinds[0]
            had = [*had_pieces(row), "b", (kind, *["a"] * count)]
            more = row + Row(row.book, tuple(chance.choices(had, k=2)))
            for name in row.names:
                words.append(tells_nothing(row, name))
                self.assertIs(tells_nothing(more, name), words[-1], (row.things, more.things, name))
                self.assertIs(name_holds(more, name, ("nothing",)), words[-1])
        self.assertTrue(words.count(True) > 20 and words.count(False) > 20)

    def test_with_rows_behind_without_a_common_name(self):
        chance = random.Random(284)
        words = []
        for row in some_rows(150, 285):
            behind = with_other_names(some_row(row.book, chance))
            for name in row.names:
                words.append(tells_nothing(row, name))
                self.assertIs(tells_nothing(row + behind, name), words[-1])
                self.assertIs(tells_nothing(behind + row, name), words[-1])
                paper = judge_name(row, name)
                if not words[-1]:
                    # What tells two rows apart does so with things behind, whatever is put into these.
                    self.assertTrue(name_holds(row + behind, name, paper))
        self.assertTrue(words.count(True) > 20 and words.count(False) > 20)

    def test_two_things_for_a_name_of_which_nothing_is_told(self):
        chance = random.Random(286)
        seen = 0
        for row in some_rows(250, 287):
            for name in row.names:
                things = [thing for thing in (*asked_things(row), "b", "R") if name not in plain.pieces(thing)]
                rows = tuple(row.replaced(name, thing) for thing in chance.sample(things, min(len(things), 6)))
                if tells_nothing(row, name):
                    seen += 1
                    self.assertEqual(len(classes(rows)), 1)
                else:
                    _, first, second, paper = judge_name(row, name)
                    self.assertFalse(is_alike(row.replaced(name, first), row.replaced(name, second)))
                    self.assertTrue(compare_holds(row.replaced(name, first), row.replaced(name, second), paper))
        self.assertGreater(seen, 30)
