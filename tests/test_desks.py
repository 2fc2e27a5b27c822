import random
import unittest

from sealedalike.comparing import compare, compare_holds, is_alike
from sealedalike.desks import Desk, Sides
from sealedalike.errors import BadThing, NothingToRedo, NothingToUndo
from sealedalike.having import is_had
from sealedalike.rows import Row
from tests import plain, plain_alike
from tests.samples import AWKWARD, ROW, STD, odd_values, some_pairs, some_rows


def std(*things):
    return Row(STD, things)


def shown(*things):
    desk = Desk(STD)
    for thing in things:
        desk.show(thing)
    return desk


def both_shown(*pairs):
    sides = Sides(STD)
    for thing, other in pairs:
        sides.show(thing, other)
    return sides


def gained(row):
    """What a desk gains by the last thing of a row."""
    before = row.only(range(len(row) - 1))
    return plain.ascending(piece for piece in row.pieces if plain.had(row, piece) and not plain.had(before, piece))


class Desks(unittest.TestCase):
    def test_at_first(self):
        for book in (STD, AWKWARD):
            desk = Desk(book)
            self.assertEqual(desk.row, Row(book, ()))
            self.assertEqual(desk.book, book)
            self.assertEqual(desk.gained(), ())
            self.assertEqual(Desk(book=book).row, desk.row)

    def test_show(self):
        desk = Desk(STD)
        self.assertIsNone(desk.show("K"))
        self.assertIsNone(desk.show(thing=("half", "N")))
        self.assertIsNone(desk.show("K"))
        self.assertEqual(desk.row, std("K", ("half", "N"), "K"))
        self.assertEqual(desk.book, STD)

    def test_desks_do_not_meet(self):
        one, other = Desk(STD), Desk(STD)
        one.show("K")
        self.assertEqual((one.row, other.row), (std("K"), std()))
        other.show("N")
        one.undo()
        self.assertRaises(NothingToRedo, other.redo)
        self.assertEqual((one.row, other.row), (std(), std("N")))
        one.redo()
        self.assertEqual((one.row, other.row), (std("K"), std("N")))

    def test_rows_that_were_read_stay(self):
        desk = shown("K")
        row = desk.row
        desk.show("N")
        desk.undo()
        desk.undo()
        self.assertEqual(row, std("K"))

    def test_undo_and_redo(self):
        desk = shown("K", "L", "M")
        self.assertIsNone(desk.undo())
        self.assertEqual(desk.row, std("K", "L"))
        self.assertIsNone(desk.redo())
        self.assertEqual(desk.row, std("K", "L", "M"))
        for _ in range(3):
            desk.undo()
        self.assertEqual(desk.row, std())
        for things in (("K",), ("K", "L"), ("K", "L", "M")):
            desk.redo()
            self.assertEqual(desk.row, std(*things))

    def test_nothing_to_take_back(self):
        for desk in (Desk(STD), shown("K")):
            if len(desk.row):
                desk.undo()
            for _ in range(2):
                self.assertRaises(NothingToUndo, desk.undo)
                self.assertEqual(desk.row, std())
        desk.redo()
        self.assertEqual(desk.row, std("K"))

    def test_nothing_to_show_again(self):
        for desk in (Desk(STD), shown("K"), shown("K", "K")):
            row = desk.row
            for _ in range(2):
                self.assertRaises(NothingToRedo, desk.redo)
                self.assertEqual(desk.row, row)
        desk.undo()
        desk.redo()
        self.assertRaises(NothingToRedo, desk.redo)

    def test_behind_show_nothing_can_be_shown_again(self):
        desk = shown("K", "L")
        desk.undo()
        desk.undo()
        desk.redo()
        desk.show("N")
        self.assertRaises(NothingToRedo, desk.redo)
        self.assertEqual(desk.row, std("K", "N"))
        desk.undo()
        self.assertEqual(desk.row, std("K"))
        desk.redo()
        self.assertEqual(desk.row, std("K", "N"))

    def test_things_that_are_refused(self):
        desk = shown("K", "L")
        desk.undo()
        for value in odd_values():
            with self.assertRaises(BadThing) as caught:
                desk.show(value)
            self.assertIs(caught.exception.thing, value)
            self.assertEqual(desk.row, std("K"))
        self.assertRaises(BadThing, desk.show, ("h", "a"))
        desk.redo()
        self.assertEqual(desk.row, std("K", "L"))
        self.assertRaises(BadThing, Desk(AWKWARD).show, ("half", "K"))

    def test_against_lists(self):
        chance = random.Random(311)
        for seed in range(30):
            desk, things, taken = Desk(STD), [], []
            for _ in range(40):
                choice = chance.randrange(5)
                if choice == 0:
                    if taken:
                        desk.redo()
                        things.append(taken.pop())
                    else:
                        self.assertRaises(NothingToRedo, desk.redo)
                elif choice < 3:
                    if things:
                        desk.undo()
                        taken.append(things.pop())
                    else:
                        self.assertRaises(NothingToUndo, desk.undo)
                elif len(things) < 10:
                    things.append(chance.choice(["K", ("lock", "N", "K"), "a", ("half", "K"), ("pair", "N", "K")]))
                    desk.show(things[-1])
                    taken = []
                self.assertEqual(desk.row, std(*things))
                self.assertEqual(desk.gained(), gained(desk.row) if things else ())


class Gained(unittest.TestCase):
    def test_examples(self):
        desk = Desk(STD)
        wanted = [
            (ROW.things[0], (ROW.things[0],)), (ROW.things[1], (ROW.things[1],)),
            ("S", ("K", "N", "S", ("half", "S"), ("pair", "a", "N"))),
        ]
        for thing, pieces in wanted:
            desk.show(thing)
            self.assertEqual(desk.gained(), pieces)
            self.assertEqual(desk.gained(), pieces)

    def test_nothing_new(self):
        self.assertEqual(shown("K", "K").gained(), ())
        self.assertEqual(shown("a").gained(), ())
        self.assertEqual(shown(("half", "a")).gained(), ())
        self.assertEqual(shown("K", ("pair", "K", "b")).gained(), ())

    def test_pieces_within_that_open_now(self):
        self.assertEqual(shown(("half", ("pair", "K", "L")), "K").gained(), ("K",))
        self.assertEqual(
            shown(("half", ("pair", "K", "L")), "K", "L").gained(), ("L", ("pair", "K", "L")),
        )
        self.assertEqual(shown(("lock", ("mark", "N"), "K"), "K").gained(), ("K", ("mark", "N")))
        self.assertEqual(shown(("lock", ("half", "a"), "K"), "K").gained(), ("K",))

    def test_after_undo_and_redo(self):
        desk = shown(("lock", "N", "K"), "K")
        desk.undo()
        self.assertEqual(desk.gained(), (("lock", "N", "K"),))
        desk.redo()
        self.assertEqual(desk.gained(), ("K", "N"))
        desk.undo()
        desk.undo()
        self.assertEqual(desk.gained(), ())

    def test_against_a_plain_function(self):
        for row in some_rows(200, 312):
            desk = Desk(row.book)
            for at, thing in enumerate(row):
                desk.show(thing)
                self.assertEqual(desk.gained(), gained(row.only(range(at + 1))))

    def test_each_basic_thing_once_on_the_way(self):
        several = 0
        for row in some_rows(200, 313):
            desk = Desk(row.book)
            gains = []
            for thing in row:
                desk.show(thing)
                gains.extend(desk.gained())
                self.assertFalse(any(plain.is_word(piece) for piece in gains))
            self.assertEqual(len(set(gains)), len(gains))
            self.assertTrue(set(plain.basis(row)) <= set(gains))
            self.assertTrue(all(is_had(row, piece) for piece in gains))
            several += len(gains) > 2
        self.assertGreater(several, 40)


class TwoSides(unittest.TestCase):
    def test_at_first(self):
        sides = Sides(STD)
        self.assertEqual((sides.left, sides.right, sides.book), (std(), std(), STD))
        self.assertEqual(sides.compared(), ("alike", ()))
        self.assertIsNone(sides.told_at())
        self.assertRaises(NothingToUndo, sides.undo)
        self.assertEqual(Sides(book=AWKWARD).left, Row(AWKWARD, ()))

    def test_show(self):
        sides = Sides(STD)
        self.assertIs(sides.show(("lock", "a", "K"), ("lock", "b", "K")), True)
        self.assertIs(sides.show(thing="K", other="K"), False)
        self.assertEqual(sides.left, std(("lock", "a", "K"), "K"))
        self.assertEqual(sides.right, std(("lock", "b", "K"), "K"))
        self.assertIs(sides.show("a", "a"), False)
        self.assertEqual(sides.book, STD)

    def test_undo(self):
        sides = both_shown((("lock", "a", "K"), ("lock", "b", "L")), ("K", "L"))
        self.assertIsNone(sides.undo())
        self.assertEqual((sides.left, sides.right), (std(("lock", "a", "K")), std(("lock", "b", "L"))))
        self.assertIs(sides.show("M", "N"), True)
        for many in (1, 0):
            sides.undo()
            self.assertEqual((len(sides.left), len(sides.right)), (many, many))
        for _ in range(2):
            self.assertRaises(NothingToUndo, sides.undo)
        self.assertEqual((sides.left, sides.right), (std(), std()))

    def test_sides_do_not_meet(self):
        one, other = Sides(STD), Sides(STD)
        one.show("K", "N")
        self.assertEqual((len(other.left), len(other.right)), (0, 0))

    def test_told_at(self):
        sides = both_shown((("lock", "a", "K"), ("lock", "b", "K")), ("M", "M"), ("K", "K"), ("c", "d"))
        self.assertEqual(sides.told_at(), 3)
        sides.undo()
        self.assertEqual(sides.told_at(), 3)
        sides.undo()
        self.assertIsNone(sides.told_at())
        self.assertEqual(both_shown(("a", "b")).told_at(), 1)
        self.assertEqual(both_shown(("K", "K"), ("K", "L")).told_at(), 2)
        self.assertIsNone(both_shown(("K", "L")).told_at())

    def test_things_that_are_refused(self):
        sides = both_shown(("K", "L"))
        odd = odd_values()
        for value, other in zip(odd, odd[1:] + odd[:1]):
            for called, wanted in (((value, "a"), value), (("a", value), value), ((value, other), value)):
                with self.assertRaises(BadThing) as caught:
                    sides.show(*called)
                self.assertIs(caught.exception.thing, wanted)
                self.assertEqual((sides.left, sides.right), (std("K"), std("L")))
        for called, wanted in (((("h", "a"), "a"), ("h", "a")), (("a", ("h", "a")), ("h", "a"))):
            with self.assertRaises(BadThing) as caught:
                sides.show(*called)
            self.assertEqual(caught.exception.thing, wanted)
        self.assertIs(sides.show("M", "N"), True)

    def test_against_rows(self):
        told = []
        for one, other in some_pairs(300, 314):
            sides = Sides(one.book)
            for at, (left, right) in enumerate(zip(one, other)):
                places = range(at + 1)
                alike = plain_alike.picture(one.only(places)) == plain_alike.picture(other.only(places))
                self.assertIs(sides.show(left, right), alike)
                self.assertEqual((sides.left, sides.right), (one.only(places), other.only(places)))
            self.assertEqual(sides.compared(), compare(one, other))
            self.assertTrue(compare_holds(one, other, sides.compared()))
            told.append(sides.told_at())
            self.assertEqual(told[-1], sides.told_at())
            for many in range(len(one) + 1):
                unlike = told[-1] is not None and many >= told[-1]
                self.assertIs(is_alike(one.only(range(many)), other.only(range(many))), not unlike)
            for many in reversed(range(len(one))):
                sides.undo()
                self.assertEqual(sides.told_at(), told[-1] if told[-1] is not None and told[-1] <= many else None)
        self.assertTrue({None, 1, 2, 3, 4} <= set(told))


class Objects(unittest.TestCase):
    def test_equal_to_no_other_values(self):
        for made in (Desk(STD), Sides(STD)):
            for value in odd_values():
                self.assertFalse(made == value)
                self.assertTrue(made != value)
        self.assertFalse(Desk(STD) == Sides(STD))
