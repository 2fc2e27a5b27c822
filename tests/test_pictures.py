import random
import unittest

from sealedalike.books import Book
from sealedalike.errors import NotHad
from sealedalike.having import got_things, had_pieces, is_had, judge_holds
from sealedalike.pictures import boxes_of, picture, shape_of
from sealedalike.rows import Row
from tests import plain, plain_alike
from tests.samples import AWKWARD, RING, ROW, STD, asked_things, nested, some_rows

SEALED = ("seal", "K", ("half", "S"))
SIGNED = ("sign", "m", "S")


def std(*things):
    return Row(STD, things)


class Picture(unittest.TestCase):
    def test_example(self):
        wanted = ((("lock", ("pair", "a", 2), 1), ("seal", 1, ("half", 0)), 0), ((), (), ()))
        self.assertEqual(picture(ROW), wanted)
        self.assertEqual(picture(row=ROW), wanted)

    def test_rows_without_things(self):
        self.assertEqual(picture(std()), ((), ()))
        self.assertEqual(picture(Row(AWKWARD, ())), ((), ()))

    def test_words_and_made_things_are_no_boxes(self):
        self.assertEqual(picture(std("a", "a", ("half", ("mark", "b")))), (("a", "a", ("half", ("mark", "b"))), ()))
        self.assertEqual(picture(std(("lock", "a", "K"), "K")), ((("lock", "a", 0), 0), ((),)))

    def test_things_shown_twice(self):
        self.assertEqual(picture(std("K", "K", "N", "K")), ((0, 0, 1, 0), ((), ())))

    def test_names_are_numbered_as_they_are_got(self):
        self.assertEqual(picture(std("Z", "A", ("pair", "M", "B"))), ((0, 1, ("pair", 2, 3)), ((), (), (), ())))
        self.assertEqual(picture(std(("pair", "M", "B"), "B")), ((("pair", 1, 0), 0), ((), ())))

    def test_boxes_that_are_locks_seals_signs_and_halves(self):
        self.assertEqual(picture(std(("lock", "a", "K"))), ((0,), ((),)))
        self.assertEqual(picture(std(SEALED)), ((0,), ((),)))
        self.assertEqual(picture(std(SIGNED)), ((0,), ((("shown", (), "m"),),)))
        self.assertEqual(picture(std(("half", "K"))), ((0,), ((),)))
        self.assertEqual(picture(std(("mark", "K"), "K")), ((("mark", 0), 0), ((),)))

    def test_openings_at_boxes(self):
        self.assertEqual(
            picture(std(SIGNED, ("half", "S"))), ((0, 1), ((("shown", (), "m"), ("signed", (1,), "m")), ())),
        )
        self.assertEqual(picture(std(("seal", "a", ("half", "S")), "S")), ((("seal", "a", ("half", 0)), 0), ((),)))
        held = ("sign", ("pair", "M", "a"), "S")
        self.assertEqual(
            picture(std(held)), ((0,), ((("shown", (), ("pair", 1, "a")),), ())),
        )

    def test_openings_that_are_left_out(self):
        # The half is not there, so "signed" never comes.
        self.assertEqual(picture(std(("sign", "K", "S"), ("half", "L")))[1], ((("shown", (), 2),), (), ()))

    def test_an_inside_that_finds_nothing(self):
        self.assertEqual(picture(std(("seal", "K", "S"), "L")), ((0, 1), ((), ())))
        book = Book(
            (("box", 2), ("c", 1), ("d", 1)),
            (("look", "box", 0, (("inside", 1, "c"),)), ("peep", "box", 0, (("inside", 1, "d"),))),
        )
        # The part inside can be had, the half around it can be made, so the whole is made.
        self.assertEqual(picture(Row(book, (("box", "a", ("c", "w")),))), ((("box", "a", ("c", "w")),), ()))
        self.assertEqual(picture(Row(book, (("box", "A", ("c", "w")),))), ((("box", 0, ("c", "w")),), ((),)))
        self.assertEqual(picture(Row(book, (("box", "A", ("d", "W")), "W")))[0], (("box", 1, ("d", 0)), 0))

    def test_needed_things_that_are_made(self):
        book = Book((("box", 3), ("c", 1)), (("look", "box", 0, (("part", 1), ("around", "c", 1))),))
        row = Row(book, (("box", "A", ("c", "w"), "B"),))
        self.assertEqual(
            picture(row), ((0,), ((("look", (("c", "w"), ("c", ("c", "w"))), 1),), ())),
        )

    def test_the_order_of_boxes_openings_and_needed_things(self):
        book = Book((("box", 3),), (
            ("a", "box", 2, (("part", 1), ("part", 0))), ("b", "box", 1, ()), ("c", "box", 0, (("part", 1),)),
        ))
        row = Row(book, (("box", ("box", "X", "Y", "Z"), "B", "w"),))
        self.assertEqual(picture(row), ((("box", ("box", 2, 1, 3), 0, "w"),), ((), (), (), ())))
        other = Book((("box", 3),), (("a", "box", 1, ()), ("c", "box", 1, (("part", 2), ("part", 1)))))
        row = Row(other, (("box", "A", ("box", "a", "b", "c"), "w"),))
        held = ("box", "a", "b", "c")
        self.assertEqual(picture(row), ((0,), ((("a", (), held), ("c", ("w", held), held)),)))

    def test_against_a_plain_function(self):
        boxes = 0
        for row in [ROW, RING, RING.with_thing("A"), *some_rows(600, 201)]:
            wanted = plain_alike.picture(row)
            self.assertEqual(picture(row), wanted, row.things)
            self.assertEqual(picture(row), wanted)
            boxes += sum(len(told) for told in wanted[1])
        self.assertGreater(boxes, 30)

    def test_only_tuples_strings_and_integers(self):
        for row in some_rows(60, 202):
            left = [picture(row)]
            while left:
                value = left.pop()
                self.assertIn(type(value), (tuple, str, int))
                if type(value) is tuple:
                    left.extend(value)

    def test_other_names(self):
        chance = random.Random(203)
        for row in some_rows(200, 204):
            names = chance.sample(["A", "K", "L", "N", "S", "Z9", "Q"], len(row.names))
            pairs = tuple(zip(row.names, names))
            self.assertEqual(picture(row.renamed(pairs)), picture(row))

    def test_things_behind_that_tell_nothing_new(self):
        for row in some_rows(100, 205):
            shown, told = picture(row)
            self.assertEqual(picture(row.with_thing("zz")), ((*shown, "zz"), told))
            self.assertEqual(picture(row + row), (shown + shown, told))
            more = row + Row(row.book, had_pieces(row))
            self.assertEqual(plain.ascending(boxes_of(more)), plain.ascending(boxes_of(row)))

    def test_deep_things(self):
        deep = nested(300, "K", lambda inner: ("half", inner))
        self.assertEqual(picture(std(deep)), ((0,), ((),)))
        self.assertEqual(picture(std(deep, "K")), ((nested(300, 0, lambda inner: ("half", inner)), 0), ((),)))


class Boxes(unittest.TestCase):
    def test_examples(self):
        self.assertEqual(boxes_of(ROW), ("S", "K", "N"))
        self.assertEqual(boxes_of(row=RING), RING.things)
        self.assertEqual(boxes_of(std()), ())
        self.assertEqual(boxes_of(std("a", ("half", "a"))), ())
        self.assertEqual(boxes_of(std("Z", "A", "Z")), ("Z", "A"))
        self.assertEqual(boxes_of(std(SIGNED, ("half", "K"))), (SIGNED, ("half", "K")))

    def test_the_order_is_that_of_got_things(self):
        self.assertEqual(boxes_of(std(("lock", "N", "K"), ("lock", "M", "K"), "K")), ("K", "N", "M"))
        self.assertEqual(boxes_of(std(("pair", ("lock", "a", "L"), "B"))), (("lock", "a", "L"), "B"))

    def test_against_a_plain_function(self):
        for row in some_rows(300, 206):
            self.assertEqual(boxes_of(row), tuple(plain_alike.boxes(row)))
            self.assertEqual(plain.ascending(boxes_of(row)), plain.basis(row))
            self.assertEqual([thing for thing in got_things(row) if thing in boxes_of(row)], list(boxes_of(row)))

    def test_shapes_of_boxes_are_their_numbers(self):
        for row in some_rows(100, 207):
            boxes = boxes_of(row)
            self.assertEqual([shape_of(row, box) for box in boxes], list(range(len(boxes))))


class Shapes(unittest.TestCase):
    def test_examples(self):
        self.assertEqual(shape_of(ROW, "N"), 2)
        self.assertEqual(shape_of(row=ROW, thing="word"), "word")
        self.assertEqual(shape_of(ROW, ("half", ("pair", "K", "b"))), ("half", ("pair", 1, "b")))
        self.assertEqual(shape_of(std(("lock", "a", "K")), ("half", ("lock", "a", "K"))), ("half", 0))
        self.assertEqual(shape_of(std(), "w"), "w")
        self.assertEqual(shape_of(std(), ("half", "w")), ("half", "w"))

    def test_things_that_cannot_be_had(self):
        for row, thing in ((ROW, "Q"), (std(), "K"), (std(("lock", "a", "K")), "K"), (ROW, ("half", ("mark", "Q")))):
            with self.assertRaises(NotHad) as caught:
                shape_of(row, thing)
            self.assertEqual(caught.exception.paper[0], "closed")
            self.assertTrue(judge_holds(row, thing, caught.exception.paper))

    def test_against_a_plain_function(self):
        refused = 0
        for row in some_rows(200, 208):
            for thing in asked_things(row):
                if is_had(row, thing):
                    self.assertEqual(shape_of(row, thing), plain_alike.shape(row, thing))
                else:
                    refused += 1
                    with self.assertRaises(NotHad) as caught:
                        shape_of(row, thing)
                    self.assertTrue(plain.is_closed(row, caught.exception.paper[1], thing))
        self.assertGreater(refused, 100)

    def test_shapes_in_the_picture(self):
        for row in some_rows(150, 209):
            shown, told = picture(row)
            self.assertEqual(shown, tuple(shape_of(row, thing) for thing in row))
            for box, openings in zip(boxes_of(row), told):
                for word, needed, given in openings:
                    keys = row.book.needed(word, box)
                    part = [opening[2] for opening in row.book.openings if opening[0] == word][0]
                    self.assertEqual(needed, tuple(shape_of(row, key) for key in keys))
                    self.assertEqual(given, shape_of(row, box[1 + part]))
