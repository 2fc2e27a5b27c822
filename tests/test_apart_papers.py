"""Recipes by any hand that tell two rows apart, and papers of any value."""

import random
import unittest

from sealedalike.comparing import compare, compare_holds
from sealedalike.recipes import is_recipe
from sealedalike.rows import Row
from tests import plain_alike
from tests.samples import AWKWARD, ROW, STD, nested, odd_values, some_pairs, some_recipe

OPENED = (("shown", 0), ("shown", 1), ("open", "open", (0, 1)))
WORD = (("word", "a"),)
FIRST = (("shown", 0),)
SECOND = (("shown", 1),)


def std(*things):
    return Row(STD, things)


LEFT, RIGHT = (std(("lock", "a", "K"), "K"), std(("lock", "b", "K"), "K"))
# At the second of these the key does not fit.
FITTING, OTHER = (std(("lock", "a", "K"), "K"), std(("lock", "a", "L"), "K"))


class Recipes(unittest.TestCase):
    def holds(self, one, other, paper, wanted):
        self.assertIs(compare_holds(one, other, paper), wanted, (one.things, other.things, paper))
        self.assertIs(compare_holds(other, one, paper), wanted)

    def test_comes(self):
        self.holds(FITTING, OTHER, ("comes", OPENED), True)
        self.assertIs(compare_holds(one=FITTING, other=OTHER, thing=("comes", OPENED)), True)
        for recipe in (FIRST, SECOND, WORD, OPENED[:2], (*OPENED, ("word", "a")), (*FIRST, ("open", "first", (0,)))):
            self.holds(FITTING, OTHER, ("comes", recipe), False)
        self.holds(LEFT, RIGHT, ("comes", OPENED), False)
        self.holds(FITTING, OTHER, ("comes", (*OPENED, ("make", "half", (2,)))), True)
        self.holds(FITTING, OTHER, ("comes", (*OPENED, ("open", "first", (2,)))), False)

    def test_same(self):
        self.holds(LEFT, RIGHT, ("same", OPENED, WORD), True)
        self.holds(LEFT, RIGHT, ("same", WORD, OPENED), True)
        self.holds(LEFT, RIGHT, ("same", OPENED, (("word", "b"),)), True)
        self.holds(LEFT, RIGHT, ("same", OPENED, (("word", "c"),)), False)
        self.holds(LEFT, RIGHT, ("same", OPENED, OPENED), False)
        self.holds(LEFT, RIGHT, ("same", FIRST, SECOND), False)
        self.holds(LEFT, RIGHT, ("same", FIRST, FIRST), False)
        self.holds(LEFT, RIGHT, ("same", WORD, (("word", "b"),)), False)
        self.holds(std("K", "K"), std("K", "L"), ("same", FIRST, SECOND), True)
        self.holds(std("K", "a"), std("a", "K"), ("same", FIRST, SECOND), False)
        self.holds(std("K", "a"), std("a", "K"), ("same", FIRST, WORD), True)

    def test_same_asks_that_all_come(self):
        # It comes at one row alone: both recipes fail at the other one, or only one does.
        self.holds(FITTING, OTHER, ("same", OPENED, OPENED), False)
        self.holds(FITTING, OTHER, ("same", OPENED, WORD), False)
        self.holds(FITTING, OTHER, ("same", WORD, OPENED), False)
        self.holds(FITTING, OTHER, ("same", OPENED, FIRST), False)
        self.holds(LEFT, RIGHT, ("same", (*WORD, ("open", "first", (0,))), OPENED), False)

    def test_an_inside_that_finds_nothing_at_one_row(self):
        one, other = (std(("seal", "N", ("half", "S")), "S"), std(("seal", "N", "S"), "S"))
        self.holds(one, other, ("comes", (*FIRST, *SECOND, ("open", "unseal", (0, 1)))), True)
        self.holds(one, one, ("comes", (*FIRST, *SECOND, ("open", "unseal", (0, 1)))), False)

    def test_alike_rows(self):
        one, other = (std(("lock", "a", "K"), "M"), std(("lock", "b", "L"), "N"))
        for paper in (("comes", OPENED), ("comes", FIRST), ("same", FIRST, SECOND), ("same", FIRST, WORD)):
            self.holds(one, other, paper, False)

    def test_a_hundred_and_fifty_makings(self):
        # Written out, each of these is twice as large as the one ahead.
        def doubled(begin):
            return (begin, *[("make", "pair", (at, at)) for at in range(150)])

        one, other = (std("K", "K"), std("K", "L"))
        self.holds(one, other, ("same", doubled(("shown", 0)), doubled(("shown", 1))), True)
        self.holds(one, one, ("same", doubled(("shown", 0)), doubled(("shown", 1))), False)
        self.holds(one, other, ("same", doubled(("shown", 0)), doubled(("shown", 0))), False)
        self.holds(one, other, ("same", doubled(("shown", 0)), doubled(("shown", 1))[:-1]), False)
        self.holds(one, other, ("comes", doubled(("shown", 0))), False)
        locked = (*doubled(("shown", 0)), ("shown", 1), ("make", "lock", (151, 150)))
        again = (*locked, ("make", "pair", (151, 151)), *[("make", "pair", (at, at)) for at in range(153, 202)])
        self.holds(one, other, ("comes", (*locked, ("open", "open", (152, 150)))), False)
        self.holds(one, other, ("same", (*locked, ("open", "open", (152, 150))), (("shown", 0),)), True)
        self.holds(one, other, ("comes", (*again, ("open", "open", (152, 202)))), False)
        keys = (*doubled(("shown", 0))[:40], ("shown", 1), *[("make", "pair", (at, at)) for at in range(40, 79)])
        opened = (*keys, ("word", "a"), ("make", "lock", (80, 39)), ("open", "open", (81, 79)))
        self.holds(one, other, ("comes", opened), True)

    def test_recipes_for_other_rows(self):
        self.holds(FITTING, OTHER, ("comes", (*OPENED, ("shown", 2))), False)
        self.holds(FITTING, OTHER, ("comes", (("shown", 2), *[("shown", 0), ("shown", 1), ("open", "open", (1, 2))])), False)
        self.holds(LEFT, RIGHT, ("same", OPENED, (("shown", 2), *WORD)), False)
        self.holds(LEFT, RIGHT, ("same", (("shown", 2), *WORD), OPENED), False)
        self.holds(std(*FITTING.things, "a"), std(*OTHER.things, "a"), ("comes", OPENED), True)
        one, other = (Row(AWKWARD, ("K", "K")), Row(AWKWARD, ("K", "L")))
        self.holds(one, other, ("same", FIRST, SECOND), True)
        self.holds(one, other, ("same", (*FIRST, ("make", "half", (0,))), SECOND), False)

    def test_forms(self):
        for thing in (
            ("comes",), ("comes", OPENED, OPENED), ("comes", OPENED, None), ["comes", OPENED], (OPENED, "comes"),
            ("Comes", OPENED), ("comes", list(OPENED)), ("comes", (*OPENED[:2], ["open", "open", (0, 1)])),
            ("comes", (*OPENED[:2], ("open", "open", [0, 1]))), ("comes", (*OPENED[:2], ("open", "open", (False, True)))),
            ("comes", (("shown", False), ("shown", True), OPENED[2])), ("comes", (*OPENED[:2], ("open", "open", (0,)))),
            ("comes", (*OPENED[:2], ("open", "open", (0, 1, 1)))), ("comes", (*OPENED[:2], ("open", "open", (0, -2)))),
            ("comes", (*OPENED[:2], ("open", "open", (0, 2)))), ("comes", ()), ("comes", "shown 0;shown 1;open open 0 1"),
            ("comes", (*OPENED[:2], ("open", "lock", (0, 1)))), ("comes", OPENED[::-1]), ("comes", OPENED[1:]),
            ("same", OPENED), ("had", OPENED), ("alike", OPENED), ("unlike", OPENED), OPENED, (), None,
        ):
            self.holds(FITTING, OTHER, thing, False)
        for thing in (
            ("same",), ("same", OPENED), ("same", OPENED, WORD, WORD), ["same", OPENED, WORD], ("same", WORD, list(OPENED)),
            ("same", list(WORD), OPENED), ("same", (OPENED, WORD)), (OPENED, "same", WORD), ("comes", OPENED, WORD),
            ("Same", OPENED, WORD), ("same", OPENED, ()), ("same", (), WORD), ("same", OPENED, None), ("alike", OPENED, WORD),
            ("same", OPENED, (("word", "A"),)), ("same", OPENED, (["word", "a"],)), ("same", OPENED, "word a"),
        ):
            self.holds(LEFT, RIGHT, thing, False)

    def test_against_a_plain_function(self):
        chance = random.Random(241)
        answers = []
        pairs = [(LEFT, RIGHT), (FITTING, OTHER), (std("K", "K"), std("K", "L")), (std(("pair", "K", "a")), std("K"))] * 200
        for one, other in [*pairs, *some_pairs(200, 242)]:
            for _ in range(8):
                first, second = (some_recipe(one, chance, chance.randint(1, 9)) for _ in range(2))
                for paper in (("comes", first), ("same", first, second)):
                    wanted = plain_alike.tells_apart(one, other, paper)
                    self.holds(one, other, paper, wanted)
                    answers.append((paper[0], wanted))
        for word in ("comes", "same"):
            self.assertGreater(answers.count((word, True)), 20)

    def test_papers_with_parts_changed(self):
        chance = random.Random(243)
        answers = []
        for one, other in some_pairs(400, 244):
            paper = compare(one, other)
            if paper[0] != "alike":
                for _ in range(8):
                    told = chance.randrange(1, len(paper))
                    recipe = paper[told]
                    at = chance.randrange(len(recipe))
                    step = some_recipe(one, chance, at + 1)[at]
                    recipe = chance.choice([
                        (*recipe[:at], step, *recipe[at + 1:]), recipe[:at] + recipe[at + 1:], recipe[:at + 1],
                        (*recipe[:at], *recipe[at:at + 1], *recipe[at:]), (*recipe, step),
                    ])
                    changed = (*paper[:told], recipe, *paper[told + 1:])
                    wanted = all(is_recipe(one, part) for part in changed[1:])
                    wanted = wanted and plain_alike.tells_apart(one, other, changed)
                    self.holds(one, other, changed, wanted)
                    answers.append(wanted)
        self.assertTrue(50 < answers.count(True) < len(answers) - 50)

    def test_odd_values(self):
        for value in odd_values():
            self.holds(LEFT, RIGHT, value, False)
            for thing in (
                ("comes", value), ("comes", value, value), ("comes", (value,)), ("comes", (*OPENED[:2], value)),
                ("comes", (*OPENED[:2], ("open", "open", value))), ("comes", (("shown", value),)), (value, OPENED),
                ("same", value, WORD), ("same", OPENED, value), ("same", (value,), WORD), ("same", OPENED, (value,)),
                (value, OPENED, WORD), ("same", OPENED, WORD, value), ("same", OPENED, (("word", value),)),
                ("same", OPENED, (("make", value, (0,)),)), ("same", OPENED, (*WORD, ("open", value, (0,)))),
            ):
                self.holds(LEFT, RIGHT, thing, thing == ("same", OPENED, WORD))

    def test_values_at_rows_without_things(self):
        for value in [*odd_values(), ("comes", WORD), ("same", WORD, (("word", "b"),)), ("comes", FIRST)]:
            self.holds(std(), std(), value, False)
        self.holds(std(), std(), ("alike", ()), True)
        deep = nested(40, ("comes", OPENED), lambda inner: ("comes", inner))
        self.holds(ROW, ROW, deep, False)
