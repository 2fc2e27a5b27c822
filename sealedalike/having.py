"""What an onlooker can have of a row, and the papers that show it."""

from sealedalike.errors import Mismatch, NotHad
from sealedalike.least import least_recipe
from sealedalike.numbering import Table
from sealedalike.onlooker import Making, Onlooker
from sealedalike.recipes import is_recipe, values_in, written_size
from sealedalike.things import ascending, ascends, texts_of


def got_things(row):
    """The tuple of the got things, in order."""
    onlooker = Onlooker(row)
    return tuple(onlooker.things_with(onlooker.got))


def basis(row):
    """The ascending tuple of the basic things."""
    return _basis(Onlooker(row))


def is_had(row, thing):
    """Whether any value is a thing that can be had."""
    return row.book.is_thing(thing) and are_had(row, (thing,))[0]


def judge(row, thing):
    """A paper that a thing can be had, or that it can't."""
    onlooker = Onlooker(row, (thing,))
    if onlooker.making.all_made(onlooker.others):
        return ("had", least_recipe(onlooker, onlooker.others[0]))
    return ("closed", _basis(onlooker))


def recipe_for(row, thing):
    """A recipe with the least written-out size; NotHad tells a paper if there is none."""
    paper = judge(row, thing)
    if paper[0] == "closed":
        raise NotHad(paper)
    return paper[1]


def least_size(row, thing):
    """The least written-out size of a recipe; NotHad tells a paper if there is none."""
    return written_size(recipe_for(row, thing))


def judge_holds(row, about, thing):
    """Whether any value is a right paper that a thing can be had, or that it can't."""
    if not isinstance(thing, tuple) or len(thing) != 2:
        return False
    if thing[0] == "had":
        return is_recipe(row, thing[1]) and _comes_to(row, thing[1], about)
    return thing[0] == "closed" and _is_ascending(row.book, thing[1]) and _is_closed(row, thing[1], about)


def had_pieces(row):
    """The ascending tuple of the pieces of the row that can be had."""
    return tuple([piece for piece, had in zip(row.pieces, are_had(row, row.pieces)) if had])


def has_all(row, other):
    """Whether all that can be had of the other row can be had of this one."""
    if row.book != other.book:
        raise Mismatch("book")
    # Recipes for the other row can begin from what it shows.
    return all(are_had(row, other.things))


def are_had(row, things):
    """The list that tells for each of some things of the book whether it can be had."""
    onlooker = Onlooker(row, things)
    return [number in onlooker.making.made for number in onlooker.others]


def _basis(onlooker):
    things = onlooker.things_with(onlooker.basics())
    return ascending(things, texts_of(things))


def _comes_to(row, recipe, thing):
    table = Table()
    return values_in(table, row, recipe)[-1] == table.number_of(thing)


def _is_ascending(book, things):
    """Whether any value is an ascending tuple of things of a book."""
    if not isinstance(things, tuple) or not all([book.is_thing(thing) for thing in things]):
        return False
    return ascends(texts_of(things))


def _is_closed(row, things, about):
    """Whether things are closed: all shown ones, and all that comes of them, are made of them, but not one."""
    table = Table()
    numbers = table.numbers_of(things)
    shown = table.numbers_of(row.things)
    goal = table.number_of(about)
    chances = [chance for number in numbers for chance in table.chances_at(row.book, number)]
    making = Making(table)
    for number in numbers:
        making.mark(number)
    if goal in making.made or not making.all_made(shown):
        return False
    return all([given in making.made for _, needed, given in chances if making.all_made(needed)])
