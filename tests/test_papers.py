import random
import unittest

from sealedalike.books import Book
from sealedalike.errors import NotHad
from sealedalike.having import (
    basis, got_things, had_pieces, is_had, judge, judge_holds, least_size, recipe_for,
)
from sealedalike.recipes import is_recipe, value_of
from sealedalike.rows import Row
from tests import plain
from tests.samples import (
    AWKWARD, GOOD, RING, ROW, STD, asked_things, nested, odd_values, some_recipe, some_rows, some_things,
)

TWO = Row(STD, (("lock", "a", "K"), "M"))
CLOSED = ("M", ("lock", "a", "K"))


def right(row, about, paper):
    """Whether a paper with a recipe for the row, or with a tuple of things, is right."""
    word, told = paper
    return plain.value(row, told) == about if word == "had" else plain.is_closed(row, told, about)


class Judge(unittest.TestCase):
    def test_examples(self):
        word, recipe = judge(ROW, "N")
        self.assertEqual((word, value_of(ROW, recipe)), ("had", "N"))
        self.assertEqual(judge(TWO, "K")[0], "closed")
        self.assertTrue(plain.is_closed(TWO, judge(TWO, "K")[1], "K"))
        self.assertEqual(judge(row=TWO, thing="K"), judge(TWO, "K"))

    def test_edges(self):
        empty = Row(STD, ())
        self.assertEqual(judge(empty, "K"), ("closed", ()))
        self.assertEqual(judge(empty, "word"), ("had", (("word", "word"),)))
        self.assertEqual(judge(empty, ("half", "a")), ("had", (("word", "a"), ("make", "half", (0,)))))
        self.assertEqual(judge(RING, "A")[0], "closed")
        self.assertEqual(judge(RING.with_thing("B"), "A")[0], "had")
        self.assertEqual(judge(Row(STD, (("seal", "K", "S"), "S")), "K")[0], "closed")
        self.assertEqual(judge(Row(STD, (("lock", "N", ("pair", "K", "b")), "K", "K")), "N")[0], "had")

    def test_one_of_both_papers_always(self):
        words = []
        for row in some_rows(300, 51):
            for thing in asked_things(row):
                paper = judge(row, thing)
                words.append(paper[0])
                self.assertIs(type(paper), tuple)
                self.assertEqual(len(paper), 2)
                self.assertEqual(paper[0], "had" if plain.had(row, thing) else "closed")
                self.assertEqual(paper[0] == "had", is_had(row, thing))
                if paper[0] == "had":
                    self.assertTrue(is_recipe(row, paper[1]))
                self.assertTrue(right(row, thing, paper), (row.things, thing, paper))
                self.assertIs(judge_holds(row, thing, paper), True)
                self.assertEqual(judge(row, thing), paper)
        self.assertTrue(300 < words.count("had") < len(words) - 300)

    def test_the_same_paper_with_the_error(self):
        for row in some_rows(100, 52):
            for thing in asked_things(row):
                if not plain.had(row, thing):
                    for called in (least_size, recipe_for):
                        with self.assertRaises(NotHad) as caught:
                            called(row, thing)
                        self.assertEqual(caught.exception.paper[0], "closed")
                        self.assertTrue(plain.is_closed(row, caught.exception.paper[1], thing))


class RecipesByAnyHand(unittest.TestCase):
    def test_good(self):
        self.assertIs(judge_holds(ROW, "N", ("had", GOOD)), True)
        self.assertIs(judge_holds(row=ROW, about="N", thing=("had", GOOD)), True)
        self.assertIs(judge_holds(ROW, "K", ("had", GOOD)), False)
        self.assertIs(judge_holds(ROW, "K", ("had", GOOD[:4])), True)
        self.assertIs(judge_holds(ROW, "N", ("closed", GOOD)), False)

    def test_needless_and_failing_steps(self):
        more = (*GOOD[:5], ("open", "first", (0,)), ("make", "half", (5,)), ("word", "b"), ("open", "second", (4,)))
        self.assertIs(judge_holds(ROW, "N", ("had", more)), True)
        self.assertIs(judge_holds(ROW, "N", ("had", (*GOOD, ("word", "b")))), False)
        self.assertIs(judge_holds(ROW, "b", ("had", (*GOOD, ("word", "b")))), True)
        self.assertIs(judge_holds(ROW, "N", ("had", (*GOOD, ("open", "first", (5,))))), False)

    def test_made_things_that_are_opened(self):
        more = (*GOOD, ("word", "x"), ("make", "pair", (6, 5)), ("open", "second", (7,)))
        self.assertIs(judge_holds(ROW, "N", ("had", more)), True)

    def test_values_alike_but_for_one_part(self):
        recipe = (("shown", 2), ("make", "half", (0,)), ("make", "pair", (1, 0)))
        for about, wanted in (
            (("pair", ("half", "S"), "S"), True), (("pair", "S", ("half", "S")), False), (("pair", ("half", "S"), "K"), False),
            (("lock", ("half", "S"), "S"), False), (("half", "S"), False), ("S", False),
        ):
            self.assertIs(judge_holds(ROW, about, ("had", recipe)), wanted)

    def test_steps_that_double_forty_times(self):
        doubled = (("word", "a"), *[("make", "pair", (at, at)) for at in range(40)])
        self.assertIs(judge_holds(ROW, "a", ("had", doubled)), False)
        self.assertIs(judge_holds(ROW, ("pair", "a", "a"), ("had", doubled)), False)
        back = (*doubled, *[("open", "second", (at,)) for at in range(40, 79)])
        self.assertIs(judge_holds(ROW, ("pair", "a", "a"), ("had", back)), True)
        self.assertIs(judge_holds(ROW, ("pair", "a", "b"), ("had", back)), False)
        locked = (*doubled, ("make", "lock", (0, 40)), ("open", "open", (41, 40)))
        self.assertIs(judge_holds(ROW, "a", ("had", locked)), True)
        self.assertIs(judge_holds(ROW, "a", ("had", (*locked[:-1], ("open", "open", (41, 39))))), False)

    def test_many_steps(self):
        deep = (("word", "a"), *[("make", "half", (at,)) for at in range(3000)], ("word", "b"))
        self.assertIs(judge_holds(ROW, "b", ("had", deep)), True)
        self.assertIs(judge_holds(ROW, "b", ("had", deep[:-1])), False)

    def test_against_a_plain_function(self):
        chance = random.Random(53)
        answers = []
        for row in some_rows(150, 54):
            for _ in range(4):
                recipe = some_recipe(row, chance, 8)
                value = plain.value(row, recipe)
                for about in {value, "a", "K", *row.things[:2]} - {None}:
                    answers.append(judge_holds(row, about, ("had", recipe)))
                    self.assertIs(answers[-1], value == about)
        self.assertTrue(100 < answers.count(True) < len(answers) - 100)

    def test_recipes_with_parts_replaced(self):
        chance = random.Random(55)
        for row in some_rows(60, 56):
            for thing in asked_things(row):
                word, recipe = judge(row, thing)
                if word == "had":
                    for _ in range(6):
                        at = chance.randrange(len(recipe))
                        other = some_recipe(row, chance, at + 1)[at]
                        changed = (*recipe[:at], other, *recipe[at + 1:])
                        self.assertIs(judge_holds(row, thing, ("had", changed)), plain.value(row, changed) == thing)
                        shorter = recipe[:at] + recipe[at + 1:]
                        wanted = is_recipe(row, shorter) and plain.value(row, shorter) == thing
                        self.assertIs(judge_holds(row, thing, ("had", shorter)), wanted)


class ClosedByAnyHand(unittest.TestCase):
    def holds(self, row, about, things, wanted):
        self.assertIs(judge_holds(row, about, ("closed", things)), wanted, (row.things, about, things))

    def test_example(self):
        self.holds(TWO, "K", CLOSED, True)
        for things in (CLOSED[::-1], CLOSED[:1], CLOSED[1:], (), ("K", *CLOSED), (*CLOSED, CLOSED[1]), ("M", *CLOSED)):
            self.holds(TWO, "K", things, False)
        self.holds(TWO, "M", CLOSED, False)
        self.holds(TWO, "a", CLOSED, False)
        self.holds(TWO, ("lock", "a", "K"), CLOSED, False)
        self.holds(TWO, ("half", "M"), CLOSED, False)
        self.holds(TWO, ("lock", "b", "K"), CLOSED, True)

    def test_needless_things(self):
        self.holds(TWO, "K", ("M", "a", ("lock", "a", "K")), True)
        self.holds(TWO, "K", ("M", ("half", "M"), ("lock", "a", "K")), True)

    def test_things_that_are_no_pieces_of_the_row(self):
        self.holds(TWO, "K", ("M", "Q", ("lock", "a", "K")), True)
        self.holds(TWO, "K", ("M", ("half", "K"), ("lock", "a", "K"), ("lock", "b", "K"), ("seal", "K", "M")), True)
        self.holds(TWO, "K", ("M", ("lock", "K", "L"), ("lock", "a", "K")), True)
        self.holds(TWO, "K", ("M", ("lock", "K", "M"), ("lock", "a", "K")), False)
        self.holds(TWO, "K", ("M", ("lock", "L", "M"), ("lock", "a", "K")), False)
        self.holds(TWO, "K", ("L", "M", ("lock", "L", "M"), ("lock", "a", "K")), True)
        self.holds(TWO, "K", ("M", ("lock", "a", "K"), ("pair", "K", "M")), False)
        self.holds(Row(STD, ()), "K", ("L", ("lock", "K", "M")), True)

    def test_shown_things_that_are_made(self):
        row = Row(STD, (("pair", "M", ("half", "M")), "b"))
        self.holds(row, "K", ("M",), True)
        self.holds(row, "K", (), False)
        self.holds(row, "K", (("pair", "M", ("half", "M")),), False)

    def test_needed_things_that_are_made(self):
        row = Row(STD, (("lock", "N", ("pair", "L", "b")), "L"))
        self.holds(row, "K", ("L", row.things[0]), False)
        self.holds(row, "K", ("L", "N", row.things[0]), True)
        self.holds(row, "K", ("L", "N"), True)
        self.holds(row, "N", ("L", row.things[0]), False)

    def test_an_inside_that_finds_nothing(self):
        for part, wanted in (("S", True), (("mark", "S"), True), (("half", "L"), True), (("half", "S"), False)):
            row = Row(STD, (("seal", "K", part), "S"))
            self.holds(row, "K", ("S", ("seal", "K", part)), wanted)

    def test_all_tuples_over_some_things(self):
        rows = [TWO, RING, ROW, Row(STD, ()), Row(STD, (("seal", "K", ("half", "S")), ("pair", "S", "a")))]
        pool = ["K", "M", "S", ("half", "S"), ("lock", "a", "K"), ("lock", "M", "K"), ("seal", "K", ("half", "S")), "a"]
        for row in rows:
            for bits in range(2 ** len(pool)):
                things = plain.ascending(thing for at, thing in enumerate(pool) if bits >> at & 1)
                for about in ("K", "M"):
                    self.holds(row, about, things, plain.is_closed(row, things, about))

    def test_closed_sets_of_all_sizes(self):
        for row in some_rows(150, 57):
            for about in ("Q", "K", "S"):
                wanted = not plain.had(row, about)
                for things in (basis(row), plain.ascending(got_things(row)), had_pieces(row)):
                    self.holds(row, about, things, wanted)

    def test_sets_with_parts_replaced_left_out_or_repeated(self):
        chance = random.Random(58)
        answers = []
        for row in some_rows(150, 59):
            others = [*some_things(row.book, 6, 60), *row.pieces, "K"]
            for about in ("Q", "K"):
                things = plain.ascending(got_things(row))
                for at in range(len(things)):
                    for changed in (
                        things[:at] + things[at + 1:], things[:at + 1] + things[at:], things[at:] + things[:at],
                        plain.ascending([*things, chance.choice(others)]),
                        plain.ascending([*things[:at], chance.choice(others), *things[at + 1:]]),
                        (*things[:at], chance.choice(others), *things[at + 1:]),
                    ):
                        answers.append(judge_holds(row, about, ("closed", changed)))
                        self.assertIs(answers[-1], plain.is_closed(row, changed, about))
        self.assertTrue(200 < answers.count(True) < len(answers) - 200)

    def test_order_is_that_of_texts(self):
        row = Row(STD, ())
        self.holds(row, "K", ("paira", ("pair", "Z", "a")), False)
        self.holds(row, "K", ("Z", "pair", ("pair", "Z", "a"), "paira"), True)
        self.holds(row, "K", ("Z", "pair", "paira", ("pair", "Z", "a")), False)


class NoPapers(unittest.TestCase):
    def no_paper(self, value, row=ROW, about="N"):
        self.assertIs(judge_holds(row, about, value), False, repr(value)[:100])

    def test_any_value(self):
        for value in odd_values():
            self.no_paper(value)
            for row, about in ((ROW, "N"), (TWO, "K")):
                for paper in (
                    (value, GOOD), (value, CLOSED), ("had", value), ("had", (value,)), ("had", (("shown", value),)),
                    ("had", (("word", "a"), value)), ("closed", (*CLOSED, value)), ("closed", (value, *CLOSED)), (value,),
                    ("had", GOOD, value), (value, value), ["had", value], ["closed", value], {"had": value},
                    ("had", (*GOOD[:5], ("open", "second", (value,)))), ("had", (("make", value, (0,)),)),
                ):
                    self.no_paper(paper, row, about)
                self.assertIs(judge_holds(row, about, ("closed", value)), False)

    def test_closed_with_nothing(self):
        self.assertIs(judge_holds(Row(STD, ()), "K", ("closed", ())), True)
        self.assertIs(judge_holds(Row(STD, ("a",)), "K", ("closed", ())), True)
        self.no_paper(("closed", []), Row(STD, ()), "K")
        self.no_paper(("closed", {}), Row(STD, ()), "K")
        self.no_paper(("had", ()))

    def test_lists_in_the_place_of_tuples(self):
        self.no_paper(["had", GOOD])
        self.no_paper(("had", list(GOOD)))
        self.no_paper(("had", tuple(list(step) for step in GOOD)))
        self.no_paper(("had", (*GOOD[:5], ("open", "second", [4]))))
        self.no_paper(["closed", CLOSED], TWO, "K")
        self.no_paper(("closed", list(CLOSED)), TWO, "K")
        self.no_paper(("closed", ("M", ["lock", "a", "K"])), TWO, "K")

    def test_parts_left_out_twice_or_exchanged(self):
        for paper, row, about in ((("had", GOOD), ROW, "N"), (("closed", CLOSED), TWO, "K")):
            self.assertIs(judge_holds(row, about, paper), True)
            for changed in (paper[:1], paper[1:], paper[::-1], (*paper, paper[1]), (*paper, ()), (paper,), paper[1]):
                self.no_paper(changed, row, about)
        for at in range(len(GOOD) - 1):
            self.no_paper(("had", GOOD[:at] + GOOD[at + 1:]))

    def test_bools_in_the_place_of_integers(self):
        self.no_paper(("had", (("shown", False), *GOOD[1:])))
        self.no_paper(("had", (GOOD[0], ("shown", True), *GOOD[2:])))
        self.no_paper(("had", (*GOOD[:3], ("open", "unseal", (True, 2)), *GOOD[4:])))

    def test_other_words(self):
        for word in ("Had", "had ", "kept", "", "shown", "close", "closed\n", None, 0):
            self.no_paper((word, GOOD))
            self.no_paper((word, CLOSED), TWO, "K")

    def test_words_of_other_books(self):
        row = Row(AWKWARD, ("M",))
        self.assertIs(judge_holds(row, "K", ("closed", ("M",))), True)
        self.no_paper(("closed", ("M", ("half", "K"))), row, "K")
        self.no_paper(("closed", ("M", ("part", "K"))), TWO, "K")
        self.no_paper(("had", (("shown", 0), ("make", "half", (0,)))), row, ("part", "M"))
        small = Row(Book(STD.kinds, ()), ROW.things)
        self.no_paper(("had", GOOD), small)

    def test_big_values(self):
        deep = nested(39, "K", lambda inner: ("half", inner))
        self.assertIs(judge_holds(Row(STD, ()), "K", ("closed", (deep,))), True)
        many = tuple(f"K{at:04}" for at in range(5000))
        self.assertIs(judge_holds(Row(STD, ()), "K", ("closed", many)), True)
        self.assertIs(judge_holds(Row(STD, ()), "K0003", ("closed", many)), False)
        self.no_paper(("closed", many[::-1]), Row(STD, ()), "K")
        self.no_paper(("had", tuple(("make", "half", (at,)) for at in range(5000))))
