import copy
import itertools
import random
import unittest

from sealedalike.books import Book
from sealedalike.recipes import is_recipe, read_recipe, recipe_text, value_of, written_size
from sealedalike.rows import Row
from tests import plain
from tests.samples import AWKWARD, GOOD, RING, ROW, STD, nested, odd_values, some_recipe, some_rows


def is_index(value, many):
    return type(value) is int and 0 <= value < many


def is_right_step(row, at, step):
    """What the document says of a step, read word by word."""
    if type(step) is not tuple:
        return False
    if len(step) == 2:
        if step[0] == "shown":
            return is_index(step[1], len(row.things))
        return step[0] == "word" and type(step[1]) is str and step[1].isalpha() and step[1].islower() and len(step[1]) < 9
    if len(step) != 3 or type(step[1]) is not str or type(step[2]) is not tuple:
        return False
    if step[0] == "make":
        counts = dict(row.book.kinds)
    else:
        counts = {told[0]: 1 + len(told[3]) for told in row.book.openings} if step[0] == "open" else {}
    return counts.get(step[1]) == len(step[2]) and all(is_index(number, at) for number in step[2])


class IsRecipe(unittest.TestCase):
    def test_good(self):
        for recipe in (GOOD, GOOD[:1], (("word", "a"),), (("word", "a"), ("make", "half", (0,)))):
            self.assertIs(is_recipe(ROW, recipe), True)
        self.assertIs(is_recipe(row=ROW, thing=GOOD), True)
        self.assertIs(is_recipe(Row(STD, ()), (("word", "lock"),)), True)
        self.assertIs(is_recipe(ROW, GOOD + GOOD[:1] * 400), True)

    def test_steps_that_fail_may_stand(self):
        self.assertIs(is_recipe(ROW, (("word", "a"), ("open", "unseal", (0, 0)), ("make", "pair", (1, 0)))), True)

    def test_any_value(self):
        for value in odd_values():
            for thing in (value, (value,), (("word", "a"), value), (value, ("word", "a")), [("word", "a")]):
                self.assertIs(is_recipe(ROW, thing), False, repr(thing)[:80])
            for step in (
                ("shown", value), ("word", value), (value, 0), (value, "a"), ("make", value, (0,)), (value, "half", (0,)),
                ("make", "half", value), ("make", "half", (value,)), ("open", value, (0,)), ("open", "first", value),
                ("open", "open", (0, value)), ("make", "pair", (value, 0)),
            ):
                recipe = (("word", "a"), step)
                right = is_right_step(ROW, 1, step)
                self.assertIs(is_recipe(ROW, recipe), right, repr(step)[:80])
                self.assertFalse(right and repr(value) not in ("0", "'a'", "1"), step)

    def test_all_small_steps(self):
        rows = (ROW, Row(STD, ("a",)), Row(STD, ()), Row(AWKWARD, ("a", "a")))
        words = ["shown", "word", "make", "open", "half", "lock", "first", "unseal", "part", "a", "e", "K", 0, 1, True, ()]
        ends = [0, 1, 2, True, None, "a", (), (0,), (1,), (0, 0), (0, 1), (1, 0), (0, 0, 0), (True,), [0], ((0,),), (-1,)]
        steps = [(word, end) for word in words for end in [*words, *ends]]
        steps += [(word, name, end) for word in words for name in words for end in ends]
        steps += [(*step, ()) for step in steps if len(step) == 3][:50]
        for row in rows:
            for step in steps:
                self.assertIs(is_recipe(row, (step,)), is_right_step(row, 0, step), step)
                self.assertIs(is_recipe(row, (("word", "b"), step)), is_right_step(row, 1, step), step)

    def test_numbers_of_earlier_steps(self):
        for number in (1, 2, -1, True, False, 10 ** 39, "0", None, (0,), [0]):
            self.assertIs(is_recipe(ROW, (("word", "a"), ("make", "half", (number,)))), False)
        self.assertIs(is_recipe(ROW, (("make", "half", (0,)), ("word", "a"))), False)

    def test_indexes_of_shown_things(self):
        for index in (3, -1, True, False, 10 ** 39, "0", None):
            self.assertIs(is_recipe(ROW, (("shown", index),)), False)
        self.assertIs(is_recipe(Row(STD, ()), (("shown", 0),)), False)

    def test_parts_left_out_twice_or_exchanged(self):
        for at, step in enumerate(GOOD):
            for changed in (step[:-1], step[1:], (*step, step[-1]), step[::-1], list(step), (step,)):
                recipe = (*GOOD[:at], changed, *GOOD[at + 1:])
                self.assertIs(is_recipe(ROW, recipe), False, changed)
        self.assertIs(is_recipe(ROW, list(GOOD)), False)
        for at in range(3, 6):
            word, name, numbers = GOOD[at]
            for other in (numbers[:-1], (*numbers, 0), list(numbers), (at, *numbers[1:])):
                self.assertIs(is_recipe(ROW, (*GOOD[:at], (word, name, other), *GOOD[at + 1:])), False)

    def test_words_of_other_books(self):
        steps = (("word", "a"), ("make", "part", (0,)), ("open", "d", (1, 0)))
        self.assertIs(is_recipe(Row(AWKWARD, ()), steps), True)
        self.assertIs(is_recipe(Row(STD, ()), steps), False)
        self.assertIs(is_recipe(ROW, (("word", "a"), ("open", "half", (0,)))), False)
        self.assertIs(is_recipe(ROW, (("word", "a"), ("make", "first", (0,)))), False)
        self.assertIs(is_recipe(Row(Book(STD.kinds, ()), ROW.things), GOOD), False)

    def test_some_recipes(self):
        chance = random.Random(31)
        for row in some_rows(60, 32):
            for many in (1, 5, 20):
                self.assertIs(is_recipe(row, some_recipe(row, chance, many)), True)


class Values(unittest.TestCase):
    def test_example(self):
        self.assertEqual(value_of(ROW, GOOD), "N")
        self.assertEqual(value_of(row=ROW, recipe=GOOD), "N")
        values = [*ROW.things, "K", ("pair", "a", "N"), "N"]
        self.assertEqual([value_of(ROW, GOOD[:at]) for at in range(1, 7)], values)

    def test_words_and_made_things(self):
        self.assertEqual(value_of(Row(STD, ()), (("word", "lock"),)), "lock")
        recipe = (("word", "a"), ("shown", 2), ("make", "lock", (0, 1)), ("make", "pair", (2, 2)))
        self.assertEqual(value_of(ROW, recipe), ("pair", ("lock", "a", "S"), ("lock", "a", "S")))

    def test_made_things_are_opened(self):
        recipe = (("word", "b"), ("shown", 2), ("make", "half", (1,)), ("make", "seal", (0, 2)), ("open", "unseal", (3, 1)))
        self.assertEqual(value_of(ROW, recipe), "b")
        recipe = (("word", "b"), ("shown", 0), ("make", "sign", (0, 1)), ("make", "half", (1,)), ("open", "signed", (2, 3)))
        self.assertEqual(value_of(ROW, recipe), "b")

    def test_openings_fail(self):
        row = Row(STD, (("lock", "a", "K"), "K", ("seal", "b", "S"), "S", ("half", "K"), ("pair", "K", "a"), "L"))
        shown = tuple(("shown", at) for at in range(7))
        for opening, numbers, wanted in (
            ("open", (0, 1), "a"), ("open", (0, 0), None), ("open", (0, 3), None), ("open", (1, 1), None),
            ("open", (5, 1), None), ("open", (0, 6), None), ("open", (0, 4), None), ("unseal", (2, 3), None),
            ("unseal", (2, 1), None), ("unseal", (0, 1), None), ("first", (5,), "K"), ("second", (5,), "a"),
            ("first", (4,), None), ("first", (1,), None), ("shown", (0,), None), ("signed", (0, 1), None),
        ):
            self.assertEqual(value_of(row, (*shown, ("open", opening, numbers))), wanted, (opening, numbers))

    def test_inside_that_finds_nothing_or_something(self):
        for part, key, wanted in (
            (("half", "S"), "S", "b"), (("half", "S"), "K", None), ("S", "S", None), (("mark", "S"), "S", None),
            ("half", "half", None), (("half", ("half", "S")), ("half", "S"), "b"), (("half", "a"), "a", "b"),
        ):
            row = Row(STD, (("seal", "b", part), key))
            recipe = (("shown", 0), ("shown", 1), ("open", "unseal", (0, 1)))
            self.assertEqual(value_of(row, recipe), wanted)

    def test_a_word_that_begins_as_a_kind_is_called(self):
        row = Row(AWKWARD, (("part", "hello"), ("part", ("h", "hello"))))
        for index, wanted in ((0, None), (1, ("h", "hello"))):
            for key in ("h", "e", "hello"):
                recipe = (("shown", index), ("word", key), ("open", "d", (0, 1)))
                self.assertEqual(value_of(row, recipe), wanted if key == "hello" else None)

    def test_two_needs_in_order(self):
        row = Row(AWKWARD, (("opening", ("part", "A"), "b", "C"), "A", ("part", "b")))
        shown = (("shown", 0), ("shown", 1), ("shown", 2))
        self.assertEqual(value_of(row, (*shown, ("open", "a", (0, 1, 2)))), "C")
        self.assertIsNone(value_of(row, (*shown, ("open", "a", (0, 2, 1)))))
        self.assertIsNone(value_of(row, (*shown, ("open", "a", (0, 1, 1)))))

    def test_failing_steps(self):
        failing = (("word", "a"), ("open", "first", (0,)), ("make", "half", (1,)), ("open", "open", (2, 0)))
        for many in (2, 3, 4):
            self.assertIsNone(value_of(ROW, failing[:many]))
        self.assertEqual(value_of(ROW, (*failing, ("make", "mark", (0,)))), ("mark", "a"))
        self.assertIsNone(value_of(ROW, (*failing, ("make", "pair", (0, 3)))))
        self.assertIsNone(value_of(ROW, (*failing, ("make", "pair", (1, 0)))))
        self.assertEqual(value_of(ROW, (*failing, ("shown", 2))), "S")

    def test_two_hundred_steps(self):
        deep = (("shown", 2), *[("make", "half", (at,)) for at in range(199)])
        self.assertEqual(value_of(ROW, deep), nested(199, "S", lambda inner: ("half", inner)))
        doubled = [("word", "a")]
        while len(doubled) + 2 <= 200:
            at = len(doubled) - 1
            doubled += [("make", "pair", (at, at)), ("open", "first", (at + 1,))]
        self.assertEqual(value_of(ROW, tuple(doubled)), "a")
        failed = [("word", "a"), ("open", "first", (0,))]
        while len(failed) < 200:
            failed.append(("make", "pair", (len(failed) - 1, len(failed) - 1)))
        self.assertIsNone(value_of(ROW, tuple(failed)))
        keyed = [("word", "a"), ("make", "lock", (0, 0))]
        while len(keyed) + 2 <= 200:
            keyed += [("open", "open", (len(keyed) - 1, len(keyed) - 2)), ("make", "lock", (len(keyed), len(keyed)))]
        self.assertEqual(value_of(ROW, tuple(keyed)), ("lock", "a", "a"))

    def test_against_a_plain_function(self):
        chance = random.Random(33)
        values = []
        for row in some_rows(300, 34):
            recipe = some_recipe(row, chance, 14)
            for many in range(1, 15):
                values.append(value_of(row, recipe[:many]))
                self.assertEqual(values[-1], plain.value(row, recipe[:many]), (row.things, recipe))
        self.assertTrue(500 < values.count(None) < 3500)

    def test_nothing_changes(self):
        row = Row(STD, ROW.things)
        self.assertEqual(value_of(row, GOOD), value_of(row, GOOD))
        self.assertEqual(vars(row), vars(ROW))
        recipe = [["shown", 0]]
        kept = copy.deepcopy(recipe)
        self.assertIs(is_recipe(ROW, recipe), False)
        self.assertEqual(recipe, kept)


class Sizes(unittest.TestCase):
    def test_sizes(self):
        self.assertEqual([written_size(GOOD[:at]) for at in range(1, 7)], [1, 1, 1, 3, 5, 6])
        self.assertEqual(written_size(recipe=GOOD), 6)
        self.assertEqual(written_size((("word", "a"), ("make", "pair", (0, 0)))), 3)
        self.assertEqual(written_size((("word", "a"), ("shown", 999))), 1)
        self.assertEqual(written_size((("word", "a"), ("make", "opening", (0, 0, 0)))), 4)
        self.assertEqual(written_size((*GOOD, ("word", "a"))), 1)

    def test_sizes_that_double(self):
        doubled = (("word", "a"), *[("make", "pair", (at, at)) for at in range(199)])
        for many in (1, 2, 3, 41, 200):
            self.assertEqual(written_size(doubled[:many]), 2 ** many - 1)

    def test_against_a_plain_function(self):
        chance = random.Random(35)
        for row in some_rows(200, 36):
            recipe = some_recipe(row, chance, 10)
            for many in range(1, 11):
                self.assertEqual(written_size(recipe[:many]), plain.written_out(recipe[:many]))


class Texts(unittest.TestCase):
    def test_example(self):
        recipe = (("shown", 0), ("word", "a"), ("make", "pair", (0, 1)), ("open", "first", (2,)))
        text = "shown 0;word a;make pair 0 1;open first 2"
        self.assertEqual(recipe_text(recipe), text)
        self.assertEqual(recipe_text(recipe=recipe), text)
        self.assertEqual(read_recipe(text), recipe)
        self.assertEqual(read_recipe(text=text), recipe)

    def test_many_steps(self):
        recipe = (("shown", 120), *[("make", "half", (at,)) for at in range(199)], ("open", "a", (10, 0, 199)))
        text = recipe_text(recipe)
        self.assertTrue(text.startswith("shown 120;make half 0;make half 1;"))
        self.assertTrue(text.endswith(";make half 198;open a 10 0 199"))
        self.assertEqual(read_recipe(text), recipe)

    def test_there_and_back(self):
        chance = random.Random(37)
        for row, many in itertools.product(some_rows(60, 38), (1, 4, 30)):
            recipe = some_recipe(row, chance, many)
            self.assertEqual(read_recipe(recipe_text(recipe)), recipe)

    def test_recipes_for_other_rows_and_books(self):
        for text in (
            "shown 7", "word word", "word shown", "word a;make zzz 0 0 0", "word a;open make 0", "word a;make open 0 0",
            "shown 0;open abcdefgh 0 0 0", f"shown {10 ** 39}", "shown 1" + "0" * 3900,
        ):
            recipe = read_recipe(text)
            self.assertIs(type(recipe), tuple)
            self.assertEqual(recipe_text(recipe), text)
        self.assertEqual(read_recipe("word a;make open 0 0"), (("word", "a"), ("make", "open", (0, 0))))
        self.assertEqual(is_recipe(RING, read_recipe("word a;make zzz 0 0 0")), False)
