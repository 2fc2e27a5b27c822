import random
import unittest

from sealedalike.comparing import compare_holds, is_alike
from sealedalike.console import Console
from sealedalike.desks import Sides
from sealedalike.errors import InvalidCommand, NothingToUndo
from sealedalike.having import basis, is_had, least_size
from sealedalike.recipes import read_recipe, recipe_text, value_of
from sealedalike.rows import Row
from sealedalike.things import text_of
from tests import plain_alike
from tests.samples import AWKWARD, ROW, STD, asked_things, nested, odd_values, some_pairs, some_things

BOX_BOOK = "book kind box 2;kind c 1;opening look box 0 around c 1"


def run_all(console, *commands):
    return [console.run(command) for command in commands]


def beside(one, other):
    """A console with two rows of things over one book."""
    console = Console()
    console.run("book " + str(one.book).replace("\n", ";"))
    for left, right in zip(one, other):
        console.run(f"show {text_of(left)} {text_of(right)}")
    return console


def paper_in(answer):
    """The paper that an answer to "tell" is, without pairs."""
    word, _, told = answer.partition(" ")
    return (word, *[read_recipe(text) for text in told.split("|") if told])


def state(console):
    """All that a console tells of what it keeps, by answers."""
    answers = run_all(console, "basis left", "basis right", "tell")
    return [*answers, *run_all(console, *[f"have {side} {text}" for side in ("left", "right") for text in ("K", "a", "L")])]


class Commands(unittest.TestCase):
    def test_example(self):
        console = Console()
        self.assertEqual(console.run("show lock(a,K) lock(b,K)"), "alike")
        self.assertEqual(console.run(command="show K K"), "unlike")
        one, other = (Row(STD, (("lock", word, "K"), "K")) for word in "ab")
        self.assertTrue(plain_alike.tells_apart(one, other, paper_in(console.run("tell"))))

    def test_at_first(self):
        console = Console()
        self.assertEqual(
            run_all(console, "basis left", "basis right", "tell", "have left K", "have right a", "size left half(a)"),
            ["none", "none", "alike", "no", "yes", "2"],
        )
        self.assertRaises(NothingToUndo, console.run, "undo")

    def test_show_and_undo(self):
        console = Console()
        self.assertEqual(
            run_all(console, "show K N", "show K M", "undo", "show a a", "undo", "undo", "show a b", "show a a", "undo"),
            ["alike", "unlike", "alike", "alike", "alike", "alike", "unlike", "unlike", "unlike"],
        )
        self.assertEqual(console.run("undo"), "alike")
        for _ in range(2):
            self.assertRaises(NothingToUndo, console.run, "undo")

    def test_have(self):
        console = beside(ROW, Row(STD, ("K", "L", "M")))
        self.assertEqual(
            run_all(console, "have left N", "have right N", "have left K", "have right half(K)", "have left zz", "have left Q"),
            ["yes", "no", "yes", "yes", "yes", "no"],
        )

    def test_recipe_and_size(self):
        console = beside(ROW, Row(STD, ("K", "L", "M")))
        self.assertEqual(value_of(ROW, read_recipe(console.run("recipe left N"))), "N")
        self.assertEqual(console.run("size left N"), "6")
        self.assertEqual(run_all(console, "recipe right N", "size right N"), ["none", "none"])
        self.assertEqual(run_all(console, "recipe right L", "size right L"), ["shown 1", "1"])
        self.assertEqual(run_all(console, "recipe left zz", "size left zz"), ["word zz", "1"])
        self.assertEqual(console.run("recipe right half(L)"), "shown 1;make half 0")
        self.assertEqual(console.run("size right pair(L,pair(L,a))"), "5")

    def test_basis(self):
        console = beside(ROW, Row(STD, (("lock", "a", "K"), "M", ("half", "M"))))
        self.assertEqual(run_all(console, "basis left", "basis right"), ["K N S", "M lock(a,K)"])
        console.run("book kind half 1")
        self.assertEqual(run_all(console, "show a half(a)", "basis left", "basis right"), ["unlike", "none", "none"])

    def test_tell(self):
        one, other = Row(STD, (("seal", "K", ("half", "S")), "S")), Row(STD, (("seal", "K", "S"), "S"))
        for left, right in ((one, other), (other, one)):
            self.assertTrue(plain_alike.tells_apart(left, right, paper_in(beside(left, right).run("tell"))))
        console = beside(Row(STD, ("K", "K")), Row(STD, ("K", "L")))
        self.assertEqual(console.run("tell"), "same shown 0|shown 1")
        console.run("undo")
        self.assertEqual(console.run("tell"), "alike")
        book = "book kind box 2;kind c 1;opening look box 0 inside 1 c"
        console = Console()
        run_all(console, book, "show box(A,c(B)) box(A,D)", "show B B")
        self.assertEqual(console.run("tell"), "comes shown 0;shown 1;open look 0 1")

    def test_book(self):
        console = Console()
        console.run("show K K")
        self.assertEqual(console.run(BOX_BOOK), "ok")
        self.assertEqual(run_all(console, "basis left", "basis right", "tell"), ["none", "none", "alike"])
        self.assertRaises(NothingToUndo, console.run, "undo")
        self.assertRaises(InvalidCommand, console.run, "have left half(K)")
        self.assertEqual(console.run("show box(a,K) box(b,K)"), "alike")
        self.assertEqual(console.run("show c(K) c(K)"), "unlike")
        self.assertEqual(console.run("recipe left a"), "word a")
        self.assertEqual(console.run("book " + str(STD).replace("\n", ";")), "ok")
        self.assertEqual(console.run("show lock(a,K) half(K)"), "alike")
        self.assertEqual(console.run("book kind a 1"), "ok")
        self.assertEqual(console.run("size left a(a(a))"), "3")

    def test_consoles_do_not_meet(self):
        one, other = Console(), Console()
        one.run("show K K")
        self.assertEqual(run_all(other, "basis left", "have right K"), ["none", "no"])
        other.run(BOX_BOOK)
        self.assertEqual(one.run("have left half(K)"), "yes")

    def test_questions_change_nothing(self):
        console = beside(ROW, ROW.only((0, 2)) + Row(STD, ("M",)))
        before = state(console)
        run_all(console, "tell", "basis left", "size left N", "recipe right N", "have left N")
        self.assertEqual(state(console), before)


class Refused(unittest.TestCase):
    WRONG = [
        "", " ", "show", "show K", "show K K K", "show  K K", "show K  K", " show K K", "show K K ", "show K K\n", "\nshow K K",
        "show K\nK", "show K,K", "Show K K", "shown K K", "show k_ K", "show K half()", "show half(K K)", "show half (K) K",
        "show K half(K", "show box(K) K", "show K box(K)", "show lock(a,K),lock(b,K)", "show lock(a, K) K", "show lock(a) K",
        "undo ", " undo", "undo undo", "undo 1", "undo left", "UNDO", "undo\n", "redo", "redo ",
        "have", "have left", "have K", "have left K K", "have middle K", "have Left K", "have left  K", "have left K ",
        "have left half(", "have left box(K)", "have right", "have K left", "have left K;", "have leftK", "have left",
        "recipe", "recipe left", "recipe K", "recipe up K", "recipe left K K", "recipe left box(K)", "recipe left ",
        "size", "size left", "size right ", "size both K", "size left K K", "size left 1", "sizes left K", "least left K",
        "basis", "basis ", "basis left ", "basis  left", "basis K", "basis left K", "basis left right", "basis both", "basis left\n",
        "tell ", " tell", "tell left", "tell K", "tells", "tell\n", "tell;", "alike", "compare", "gained left", "show left",
        "book", "book ", "book  kind a 1", "book kind a 1 ", "book kind a 1;", "book ;kind a 1", "book kind a 0", "book kind a 4",
        "book kind b 1;kind a 1", "book kind a 1;kind a 2", "book kind a 1\nkind b 1", "book kind a 1;;kind b 1", "book kind a",
        "book kind a 1;opening a a 0", "book kind a 1;opening b a 1", "book opening b a 0;kind a 1", "book half 1", "book opening",
        "book kind a 1; kind b 1", "book kind a 1 ;kind b 1", "Book kind a 1", "book\nkind a 1", "book kind a 1\n", "book kind a 01",
        "book kind a 1;opening b a 0 part 1", "book kind a 1;opening b a 0 inside 0 c", "book\tkind a 1", "books kind a 1",
        "kind a 1", "~", "(", "show " * 800, "have left " + "half(" * 200, "show " + "K" * 3000 + " K",
    ]

    def test_lines_that_are_none(self):
        for console in (Console(), beside(ROW, ROW), beside(Row(STD, ("K", "a")), Row(STD, ("L", "b")))):
            before = state(console)
            for line in self.WRONG:
                with self.assertRaises(InvalidCommand, msg=repr(line)):
                    console.run(line)
            self.assertEqual(state(console), before)

    def test_other_values(self):
        console = beside(ROW, ROW)
        before = state(console)
        for value in [*odd_values(), "a", "K", ["tell"], ("tell",), ("have", "left", "K"), ["undo"], {"undo": 1}, STD, ROW]:
            with self.assertRaises(InvalidCommand):
                console.run(value)
        self.assertEqual(state(console), before)

    def test_things_of_other_books(self):
        console = Console()
        console.run("book " + str(AWKWARD).replace("\n", ";"))
        for line in ("show half(a) half(a)", "have left lock(a,K)", "size right half(K)", "recipe left seal(a,K)"):
            self.assertRaises(InvalidCommand, console.run, line)
        self.assertEqual(console.run("show h(K) kind(K)"), "unlike")

    def test_both_things_or_none(self):
        console = Console()
        for line in ("show K box(K)", "show box(K) K"):
            self.assertRaises(InvalidCommand, console.run, line)
            self.assertRaises(NothingToUndo, console.run, "undo")
        self.assertEqual(state(console), state(Console()))

    def test_undo_behind_refused_lines(self):
        console = beside(Row(STD, ("K", "a")), Row(STD, ("L", "b")))
        self.assertRaises(InvalidCommand, console.run, "book kind a 0")
        self.assertRaises(InvalidCommand, console.run, "show K box(a)")
        self.assertEqual(run_all(console, "undo", "undo"), ["alike", "alike"])
        self.assertRaises(NothingToUndo, console.run, "undo")
        self.assertEqual(state(console), state(Console()))

    def test_signs_left_out_twice_or_exchanged(self):
        chance = random.Random(331)
        lines = ["show lock(a,K) half(K)", "have left half(K)", "recipe right K", "size left K", "basis right", "tell", BOX_BOOK]
        answered = 0
        for _ in range(3000):
            line = chance.choice(lines)
            at = chance.randrange(len(line))
            changed = chance.choice([
                line[:at] + line[at + 1:], line[:at + 1] + line[at:], line[:at] + chance.choice(" ;,()aK\n1~") + line[at + 1:],
                line[:at] + line[at:at + 2][::-1] + line[at + 2:],
            ])
            console = Console()
            try:
                answer = console.run(changed)
            except InvalidCommand:
                self.assertEqual(state(console), state(Console()))
            else:
                answered += 1
                self.assertIs(type(answer), str)
                words = changed.split(" ")
                self.assertIn(words[0], ("show", "have", "recipe", "size", "basis", "tell", "book"))
                self.assertNotIn("", words)
                self.assertNotIn("\n", changed)
        self.assertTrue(100 < answered < 2000, answered)


class TheSameBesideOneAnother(unittest.TestCase):
    def test_console_sides_and_functions(self):
        for one, other in some_pairs(150, 332):
            console, sides = Console(), Sides(one.book)
            self.assertEqual(console.run("book " + str(one.book).replace("\n", ";")), "ok")
            for left, right in zip(one, other):
                alike = sides.show(left, right)
                answer = console.run(f"show {text_of(left)} {text_of(right)}")
                self.assertEqual(answer, "alike" if alike else "unlike")
            for side, row in (("left", one), ("right", other)):
                told = " ".join(text_of(thing) for thing in basis(row)) or "none"
                self.assertEqual(console.run(f"basis {side}"), told)
                for thing in asked_things(row)[:6]:
                    text = text_of(thing)
                    had = is_had(row, thing)
                    self.assertEqual(console.run(f"have {side} {text}"), "yes" if had else "no")
                    size = str(least_size(row, thing)) if had else "none"
                    self.assertEqual(console.run(f"size {side} {text}"), size)
                    recipe = console.run(f"recipe {side} {text}")
                    if had:
                        self.assertEqual(value_of(row, read_recipe(recipe)), thing)
                        self.assertEqual(recipe_text(read_recipe(recipe)), recipe)
                    else:
                        self.assertEqual(recipe, "none")
            answer = console.run("tell")
            self.assertEqual(answer == "alike", is_alike(one, other))
            if answer != "alike":
                self.assertTrue(compare_holds(one, other, paper_in(answer)))
            for many in reversed(range(len(one))):
                places = range(many)
                sides.undo()
                alike = is_alike(one.only(places), other.only(places))
                self.assertEqual(console.run("undo"), "alike" if alike else "unlike")
                self.assertEqual(sides.told_at() is None, alike)

    def test_things_of_all_sizes(self):
        for book in (STD, AWKWARD):
            console = Console()
            console.run("book " + str(book).replace("\n", ";"))
            for thing in some_things(book, 60, 333):
                answer = console.run(f"have right {text_of(thing)}")
                self.assertEqual(answer, "yes" if is_had(Row(book, ()), thing) else "no")
        deep = nested(150, "K", lambda inner: ("half", inner))
        console = Console()
        self.assertEqual(console.run(f"show {text_of(deep)} K"), "alike")
        self.assertEqual(console.run("basis left"), text_of(deep))
