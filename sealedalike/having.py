"""What an onlooker can have of a row, and the papers that show it."""

from sealedalike.errors import Mismatch, NotHad
from sealedalike.least import least_recipe, least_size_of
from sealedalike.onlooker import Onlooker
from sealedalike.recipes import is_recipe_over, value_in
from sealedalike.seen import seen_row
from sealedalike.things import ascends
from sealedalike.ways import Reach, Ways


def got_things(row):
    """The tuple of the got things, in order."""
    onlooker = Onlooker(seen_row(row))
    return tuple(onlooker.table.things_with(onlooker.got()))


def basis(row):
    """The ascending tuple of the basic things."""
    return _basis(Onlooker(seen_row(row)))


def is_had(row, thing):
    """Whether any value is a thing that can be had."""
    return row.book.is_thing(thing) and are_had(row, (thing,))[0]


def judge(row, thing):
    """A paper that a thing can be had, or that it can't."""
    onlooker = Onlooker(seen_row(row), (thing,))
    recipe = least_recipe(onlooker, onlooker.others[0])
    return ("closed", _basis(onlooker)) if recipe is None else ("had", recipe)


def recipe_for(row, thing):
    """A recipe with the least written-out size; NotHad tells a paper if there is none."""
    paper = judge(row, thing)
    if paper[0] == "closed":
        raise NotHad(paper)
    return paper[1]


def least_size(row, thing):
    """The least written-out size of a recipe; NotHad tells a paper if there is none."""
    size = size_in(seen_row(row), thing)
    if size is None:
        raise NotHad(judge(row, thing))
    return size


def judge_holds(row, about, thing):
    """Whether any value is a right paper that a thing can be had, or that it can't."""
    return isinstance(thing, tuple) and len(thing) == 2 and paper_holds(seen_row(row), about, *thing)


def paper_holds(seen, about, word, told):
    """Whether a word and a value behind it are a right paper of a thing, for a row by numbers."""
    if word == "had":
        return is_recipe_over(seen.book, len(seen.shown), told) and value_in(seen, told) == seen.table.number_of(about)
    return word == "closed" and _is_closed(seen, about, told)


def size_in(seen, thing):
    """The least written-out size of a recipe for a thing of the book; None if it cannot be had of a row by numbers."""
    onlooker = Onlooker(seen, (thing,))
    return least_size_of(onlooker, onlooker.others[0])


def is_basis(seen, things):
    """Whether any value is the basis of a row by numbers."""
    numbers = _numbers_of_any(seen, things)
    return numbers is not None and numbers == _basis_numbers(Onlooker(seen))


def had_pieces(row):
    """The ascending tuple of the pieces of the row that can be had."""
    return tuple([piece for piece, had in zip(row.pieces, are_had(row, row.pieces)) if had])


def has_all(row, other):
    """Whether all that can be had of the other row can be had of this one."""
    if row.book != other.book:
        raise Mismatch("book")
    # Recipes for the other row can begin from what it shows.
    return all(are_had(row, other.things))


def are_had(row, things):
    """The list that tells for each of some things of the book whether it can be had."""
    onlooker = Onlooker(seen_row(row), things)
    reach = onlooker.reach()
    return [number in reach.had for number in onlooker.others]


def _basis(onlooker):
    return tuple(onlooker.table.things_with(_basis_numbers(onlooker)))


def _basis_numbers(onlooker):
    return onlooker.table.ascending(onlooker.basics(onlooker.reach()))


def _numbers_of_any(seen, things):
    """The list of the numbers of any value that is a tuple of things of the book, None if it is none."""
    return seen.numbers_of_any(things) if isinstance(things, tuple) else None


def _is_closed(seen, about, things):
    """Whether any value is a closed set: all shown things, and all that comes of it, are made of it, but not one."""
    numbers = _numbers_of_any(seen, things)
    if numbers is None:
        return False
    table = seen.table
    texts = table.all_texts()
    goal = table.number_of(about)
    ways = Ways(table, table.openings_at(seen.book, numbers))
    made = Reach(ways, False)
    made.put(numbers)
    if not ascends([texts[number] for number in numbers]) or goal in made.had or not made.has_all(seen.shown):
        return False
    return all([given in made.had for _, named, given in ways.openings if made.has_all(named)])
