"""What the document says over the whole program, on rows made by chance from a written number."""

import random
import unittest

from sealedalike.books import Book
from sealedalike.comparing import classes, compare, compare_holds, is_alike, least_telling
from sealedalike.counting import how_many
from sealedalike.findings import finding_holds
from sealedalike.having import basis, got_things, had_pieces, has_all, is_had, judge, judge_holds, least_size
from sealedalike.pictures import boxes_of, picture
from sealedalike.recipes import is_recipe, read_recipe, recipe_text, value_of, written_size
from sealedalike.rows import Row
from sealedalike.slips import least_shows, least_slips, slips_apart
from sealedalike.whatever import judge_name, name_holds, tells_nothing
from tests import plain
from tests.samples import ROW, STD, asked_things, changed_row, some_pairs, some_rows


class MoreIsShown(unittest.TestCase):
    def test_longer_rows(self):
        chance = random.Random(341)
        for row in some_rows(150, 342):
            things = asked_things(row)
            longer = row + Row(row.book, tuple(chance.choices(things, k=3)))
            self.assertTrue(has_all(longer, row))
            for thing in things:
                word, told = judge(row, thing)
                if word == "had":
                    self.assertTrue(is_had(longer, thing))
                    self.assertTrue(is_recipe(longer, told))
                    self.assertTrue(judge_holds(longer, thing, ("had", told)))
                    self.assertTrue(finding_holds(("had", str(row.book), str(longer), thing, told)))
                    self.assertLessEqual(least_size(longer, thing), least_size(row, thing))
                    self.assertEqual(judge(longer, thing)[0], "had")

    def test_shorter_rows(self):
        chance = random.Random(343)
        kept = 0
        for row in some_rows(150, 344):
            places = sorted(chance.sample(range(len(row)), chance.randrange(len(row) + 1)))
            shorter = row.only(tuple(places))
            for thing in asked_things(row):
                word, told = judge(row, thing)
                if word == "closed":
                    kept += 1
                    self.assertTrue(judge_holds(shorter, thing, ("closed", told)))
                    self.assertTrue(finding_holds(("kept", str(row.book), str(shorter), thing, told)))
                    self.assertFalse(is_had(shorter, thing))
        self.assertGreater(kept, 200)

    def test_never_both_papers(self):
        chance = random.Random(345)
        rows = some_rows(150, 346)
        for row in rows:
            things = asked_things(row)
            papers = [judge(other, thing) for other in (row, row.with_thing(things[0])) for thing in things]
            papers += [("closed", plain.ascending(chance.sample(things, min(3, len(things))))) for _ in range(5)]
            for thing in things:
                words = {paper[0] for paper in papers if judge_holds(row, thing, paper)}
                self.assertEqual(words, {judge(row, thing)[0]})


class Texts(unittest.TestCase):
    def test_what_was_written_tells_the_same(self):
        for one, other in some_pairs(150, 347):
            book = Book.read(str(one.book))
            left, right = Row.read(book, str(one)), Row.read(book, str(other))
            self.assertEqual((book, left, right), (one.book, one, other))
            self.assertEqual((got_things(left), basis(left)), (got_things(one), basis(one)))
            self.assertEqual((picture(left), boxes_of(left)), (picture(one), boxes_of(one)))
            self.assertEqual(compare(left, right), compare(one, other))
            self.assertIs(compare_holds(left, other, compare(one, right)), True)
            self.assertEqual(least_telling(left, right), least_telling(one, other))
            for name in one.names:
                self.assertEqual(judge_name(left, name), judge_name(one, name))
            for thing in asked_things(one)[:6]:
                again = book.read_thing(plain.text(thing))
                word, told = judge(one, thing)
                self.assertEqual((again, judge(left, again)), (thing, (word, told)))
                self.assertEqual(least_slips(left, again), least_slips(one, thing))
                self.assertEqual(least_shows(left, again), least_shows(one, thing))
                if word == "had":
                    recipe = read_recipe(recipe_text(told))
                    self.assertEqual(recipe, told)
                    self.assertEqual((value_of(left, recipe), written_size(recipe)), (thing, least_size(one, thing)))
                    self.assertTrue(finding_holds(("had", str(book), str(left), again, recipe)))


class OtherWords:
    """Other words for the kinds and openings of a book, so that they stand in another order."""

    def __init__(self, book, chance):
        words = [kind for kind, _ in book.kinds] + [opening[0] for opening in book.openings]
        others = chance.sample(["a", "b", "fa", "fb", "half", "kind", "lock", "ma", "me", "open", "row", "xa", "xb", "xc", "z", "zz",
                                "pair", "seal", "inside", "part"], len(words))
        self.words = dict(zip(words, others))
        openings = [(self.words[word], self.words[kind], given, tuple(self.need(need) for need in needs))
                    for word, kind, given, needs in book.openings]
        kinds = [(self.words[kind], many) for kind, many in book.kinds]
        self.book = Book(tuple(sorted(kinds)), tuple(sorted(openings)))

    def need(self, need):
        if need[0] == "part":
            return need
        return ("around", self.words[need[1]], need[2]) if need[0] == "around" else ("inside", need[1], self.words[need[2]])

    def thing(self, thing):
        if isinstance(thing, str):
            return thing
        return (self.words[thing[0]], *[self.thing(part) for part in thing[1:]])

    def row(self, row):
        return Row(self.book, tuple(self.thing(thing) for thing in row))

    def recipe(self, recipe):
        return tuple((step[0], self.words[step[1]], step[2]) if len(step) == 3 else step for step in recipe)

    def things(self, things):
        return plain.ascending(self.thing(thing) for thing in things)

    def paper(self, paper):
        word, *told = paper
        if word == "closed":
            return (word, self.things(told[0]))
        if word == "alike":
            pairs = [(self.thing(left), self.thing(right)) for left, right in told[0]]
            return (word, tuple(sorted(pairs, key=lambda pair: plain.text(pair[0]))))
        if word == "tells":
            return (word, self.thing(told[0]), self.thing(told[1]), self.paper(told[2]))
        return (word, *[self.recipe(recipe) for recipe in told])


class Renaming(unittest.TestCase):
    def test_one_row(self):
        chance = random.Random(348)
        for row in some_rows(150, 349):
            others = OtherWords(row.book, chance)
            other = others.row(row)
            self.assertEqual(basis(other), others.things(basis(row)))
            self.assertEqual(set(got_things(other)), {others.thing(thing) for thing in got_things(row)})
            self.assertEqual(had_pieces(other), others.things(had_pieces(row)))
            self.assertEqual([how_many(other, ("a",), size) for size in range(5)],
                             [how_many(row, ("a",), size) for size in range(5)])
            for thing in asked_things(row):
                about, paper = others.thing(thing), judge(row, thing)
                self.assertEqual(judge(other, about)[0], paper[0])
                self.assertTrue(judge_holds(other, about, others.paper(paper)))
                self.assertEqual(least_slips(other, about), least_slips(row, thing))
                self.assertEqual(least_shows(other, about), least_shows(row, thing))
                if paper[0] == "had":
                    self.assertEqual(least_size(other, about), least_size(row, thing))
                    self.assertEqual(value_of(other, others.recipe(paper[1])), about)
            for name in (*row.names, "Q"):
                self.assertIs(tells_nothing(other, name), tells_nothing(row, name))
                self.assertTrue(name_holds(other, name, others.paper(judge_name(row, name))))

    def test_two_rows(self):
        chance = random.Random(350)
        for one, other in some_pairs(200, 351):
            others = OtherWords(one.book, chance)
            left, right = others.row(one), others.row(other)
            self.assertIs(is_alike(left, right), is_alike(one, other))
            self.assertEqual(compare(left, right)[0] == "alike", is_alike(one, other))
            self.assertTrue(compare_holds(left, right, others.paper(compare(one, other))))
            self.assertEqual(least_telling(left, right), least_telling(one, other))
            if len({*one.names, *other.names}) <= 5:
                self.assertEqual(slips_apart(left, right), slips_apart(one, other))
            self.assertEqual(len(classes((left, right))), len(classes((one, other))))
            self.assertIs(has_all(left, right), has_all(one, other))


class AskedAgain(unittest.TestCase):
    def test_calls_change_nothing_and_tell_the_same(self):
        chance = random.Random(352)
        for row in [ROW, *some_rows(40, 353)]:
            other = changed_row(row, chance)
            texts = (str(row.book), str(row), str(other), row.names, row.pieces)
            things = asked_things(row)[:4]

            def told():
                return [
                    picture(row), compare(row, other), least_telling(row, other), slips_apart(row, other),
                    [judge_name(row, name) for name in row.names], [judge(row, thing) for thing in things],
                    [least_slips(row, thing) for thing in things], [least_shows(row, thing) for thing in things],
                    finding_holds(("basis", str(row.book), str(row), basis(row))), classes((row, other, row)),
                ]

            self.assertEqual(told(), told())
            self.assertEqual((str(row.book), str(row), str(other), row.names, row.pieces), texts)

    def test_parameters_by_name(self):
        row = Row(STD, (("lock", "a", "K"),))
        self.assertEqual(least_slips(row=row, thing="K"), (("K",),))
        self.assertEqual(least_shows(row=row, thing="K"), ())
        self.assertEqual(slips_apart(one=row, other=row), ())
        self.assertIs(finding_holds(thing=None), False)
