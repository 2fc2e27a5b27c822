"""Whether a row tells anything of a name, whatever stands in its place."""

from sealedalike.comparing import compare, compare_holds
from sealedalike.numbering import Table
from sealedalike.onlooker import Onlooker
from sealedalike.pictures import picture_in
from sealedalike.things import LETTERS, names_in


def judge_name(row, name):
    """A paper that a row tells nothing of a name, or that it tells something."""
    if name not in row.names:
        return ("nothing",)
    unused = _unused("N", row.names)
    hidden = row.replaced(name, unused)
    table = Table()
    seen = picture_in(table, hidden)
    for thing in _things_to_try(row, name):
        other = row.replaced(name, thing)
        if picture_in(table, other) != seen:
            return ("tells", unused, thing, compare(hidden, other))
    return ("nothing",)


def name_holds(row, name, thing):
    """Whether any value is a right paper that a row tells nothing of a name, or that it tells something."""
    if not isinstance(thing, tuple):
        return False
    if len(thing) == 1 and thing[0] == "nothing":
        return tells_nothing(row, name)
    if len(thing) != 4 or thing[0] != "tells":
        return False
    _, first, second, paper = thing
    if not _is_without(row.book, name, first) or not _is_without(row.book, name, second):
        return False
    return compare_holds(row.replaced(name, first), row.replaced(name, second), paper) and paper[0] != "alike"


def tells_nothing(row, name):
    """Whether a row tells nothing of a name."""
    return judge_name(row, name)[0] == "nothing"


def _things_to_try(row, name):
    """The things by which a row tells something of a name in it, if it does by any.

    A fresh word can be had, and so can what an opening looks for inside of a thing with it. Any other
    thing can tell more only if two pieces, or needed things, become one by it: it is one of these then.
    """
    # The pieces of the row, and what is needed at them.
    things = Onlooker(row).table.things
    there = [thing for thing in things if name not in names_in(thing)]
    word = _unused("w", things)
    needs = [need for opening in row.book.openings for need in opening[3]]
    return [word, *[(need[2], word) for need in needs if need[0] == "inside"], *there]


def _unused(begin, used):
    """A word or name that begins so and is none of the used things."""
    texts = [begin]
    at = 0
    while texts[at] in used:
        texts.extend([texts[at] + letter for letter in LETTERS])
        at += 1
    return texts[at]


def _is_without(book, name, thing):
    """Whether any value is a thing of a book in which a name does not stand."""
    return book.is_thing(thing) and name not in names_in(thing)
