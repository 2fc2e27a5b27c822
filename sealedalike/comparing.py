"""Whether two rows are alike, and the papers that show it."""

from sealedalike.errors import Mismatch
from sealedalike.leastsets import least_sets
from sealedalike.numbering import Table
from sealedalike.partners import shows_alike
from sealedalike.pictures import boxes_of, picture_in
from sealedalike.recipes import is_recipe, values_in
from sealedalike.telling import telling_paper
from sealedalike.things import ascends, texts_of


def is_alike(one, other):
    """Whether no recipes tell two rows apart."""
    must_match(one, other)
    table = Table()
    return picture_in(table, one) == picture_in(table, other)


def compare(one, other):
    """A paper that two rows are alike, or that they are unlike."""
    must_match(one, other)
    paper = telling_paper(one, other)
    return ("alike", _boxes_side_by_side(one, other)) if paper is None else paper


def compare_holds(one, other, thing):
    """Whether any value is a right paper that two rows are alike, or that they are unlike."""
    if one.book != other.book or len(one) != len(other) or not isinstance(thing, tuple):
        return False
    if len(thing) == 2 and thing[0] == "alike":
        return _is_table(one.book, thing[1]) and shows_alike(one, other, thing[1])
    if len(thing) == 2 and thing[0] == "comes":
        return is_recipe(one, thing[1]) and _comes_at_one(one, other, thing[1])
    if len(thing) == 3 and thing[0] == "same":
        return is_recipe(one, thing[1]) and is_recipe(one, thing[2]) and _same_at_one(one, other, thing[1:])
    return False


def least_telling(one, other):
    """The ascending tuple of the least sets of places that tell two rows apart."""
    must_match(one, other)
    return least_sets(list(range(len(one))), lambda places: not is_alike(one.only(places), other.only(places)))


def classes(rows):
    """The indexes of the rows that are alike, side by side, in the order of their first ones."""
    table = Table()
    found = {}
    for at, row in enumerate(rows):
        found.setdefault(picture_in(table, row), []).append(at)
    return tuple([tuple(places) for places in found.values()])


def must_match(one, other):
    """Raises Mismatch if the books, or else the numbers of things, of two rows are unlike."""
    if one.book != other.book:
        raise Mismatch("book")
    if len(one) != len(other):
        raise Mismatch("things")


def _boxes_side_by_side(one, other):
    """The boxes of two rows with equal pictures, as a table of pairs."""
    boxes = list(zip(boxes_of(one), boxes_of(other)))
    texts = texts_of([left for left, _ in boxes])
    return tuple([boxes[at] for _, at in sorted([(text, at) for at, text in enumerate(texts)])])


def _is_table(book, pairs):
    """Whether any value is a tuple of pairs of things of a book, their first things ascending."""
    if not isinstance(pairs, tuple) or not all([_is_pair(book, pair) for pair in pairs]):
        return False
    return ascends(texts_of([left for left, _ in pairs]))


def _is_pair(book, pair):
    return isinstance(pair, tuple) and len(pair) == 2 and book.is_thing(pair[0]) and book.is_thing(pair[1])


def _last_values(row, recipes):
    """What recipes come to, as numbers of a table, None for those that come to nothing."""
    table = Table()
    return [values_in(table, row, recipe)[-1] for recipe in recipes]


def _comes_at_one(one, other, recipe):
    """Whether a recipe comes to something at just one of two rows."""
    values = _last_values(one, [recipe]) + _last_values(other, [recipe])
    return values.count(None) == 1


def _same_at_one(one, other, recipes):
    """Whether two recipes come to something at both rows, and to the same at just one of them."""
    left, right = (_last_values(one, recipes), _last_values(other, recipes))
    return None not in left and None not in right and (left[0] == left[1]) != (right[0] == right[1])
