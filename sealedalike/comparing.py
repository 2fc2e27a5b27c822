"""Whether two rows are alike, and the papers that show it."""

from sealedalike.errors import Mismatch
from sealedalike.leastsets import least_sets
from sealedalike.numbering import Table
from sealedalike.pairing import Both
from sealedalike.partners import shows_alike
from sealedalike.pictures import boxes_of, picture_in
from sealedalike.recipes import is_recipe_over, value_in
from sealedalike.seen import seen_in
from sealedalike.telling import telling_paper
from sealedalike.things import ascends, texts_of


def is_alike(one, other):
    """Whether no recipes tell two rows apart."""
    return both_rows(one, other).are_alike()


def compare(one, other):
    """A paper that two rows are alike, or that they are unlike."""
    _must_match(one, other)
    paper = telling_paper(one, other)
    return ("alike", _boxes_side_by_side(one, other)) if paper is None else paper


def compare_holds(one, other, thing):
    """Whether any value is a right paper that two rows are alike, or that they are unlike."""
    if one.book != other.book or len(one) != len(other):
        return False
    table = Table()
    return paper_compares(seen_in(table, one), seen_in(table, other), thing)


def paper_compares(one, other, thing):
    """The same for two rows by the numbers of one table, over one book, with equally many things."""
    if not isinstance(thing, tuple):
        return False
    if len(thing) == 2 and thing[0] == "alike":
        return _is_table(one, other, thing[1])
    if len(thing) == 2 and thing[0] == "comes":
        return _are_recipes(one, thing[1:]) and _come_at_one(one, other, thing[1:])
    if len(thing) == 3 and thing[0] == "same":
        return _are_recipes(one, thing[1:]) and _are_same_at_one(one, other, thing[1:])
    return False


def least_telling(one, other):
    """The ascending tuple of the least sets of places that tell two rows apart."""
    both = both_rows(one, other)
    words = both.pairing()
    places = list(range(len(one)))
    return least_sets(places, lambda some: words.again().told_at([both.shown[place] for place in some]))


def classes(rows):
    """The indexes of the rows that are alike, side by side, in the order of their first ones."""
    table = Table()
    found = {}
    for at, row in enumerate(rows):
        found.setdefault(picture_in(table, row), []).append(at)
    return tuple([tuple(places) for places in found.values()])


def _must_match(one, other):
    """Raises Mismatch if the books, or else the numbers of things, of two rows are unlike."""
    if one.book != other.book:
        raise Mismatch("book")
    if len(one) != len(other):
        raise Mismatch("things")


def both_rows(one, other):
    """Two rows by the numbers of one table; Mismatch as above."""
    _must_match(one, other)
    table = Table()
    return Both(seen_in(table, one), seen_in(table, other))


def _boxes_side_by_side(one, other):
    """The boxes of two rows with equal pictures, as a table of pairs."""
    boxes = list(zip(boxes_of(one), boxes_of(other)))
    texts = texts_of([left for left, _ in boxes])
    return tuple([boxes[at] for _, at in sorted([(text, at) for at, text in enumerate(texts)])])


def _is_table(one, other, pairs):
    """Whether any value is a table of pairs that shows two rows alike."""
    if not isinstance(pairs, tuple) or not all([isinstance(pair, tuple) and len(pair) == 2 for pair in pairs]):
        return False
    numbers = one.numbers_of_any([thing for pair in pairs for thing in pair])
    if numbers is None:
        return False
    texts = one.table.all_texts()
    lefts = numbers[::2]
    right = ascends([texts[number] for number in lefts])
    return right and shows_alike(one, other, list(zip(lefts, numbers[1::2])))


def _are_recipes(seen, things):
    """Whether any values are recipes for rows as this one."""
    return all([is_recipe_over(seen.book, len(seen.shown), thing) for thing in things])


def _come_at_one(one, other, recipes):
    """Whether a recipe comes to something at just one of two rows."""
    values = [value_in(seen, recipe) for recipe in recipes for seen in (one, other)]
    return values.count(None) == 1


def _are_same_at_one(one, other, recipes):
    """Whether two recipes come to something at both rows, and to the same at just one of them."""
    left, right = [[value_in(seen, recipe) for recipe in recipes] for seen in (one, other)]
    return None not in left and None not in right and (left[0] == left[1]) != (right[0] == right[1])
