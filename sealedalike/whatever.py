"""Whether a row tells anything of a name, whatever stands in its place."""

from sealedalike.comparing import compare, compare_holds
from sealedalike.onlooker import Onlooker
from sealedalike.pairing import Both
from sealedalike.seen import Seen, seen_row
from sealedalike.things import LETTERS, names_in


def judge_name(row, name):
    """A paper that a row tells nothing of a name, or that it tells something."""
    thing = telling_thing(seen_row(row), name)
    if thing is None:
        return ("nothing",)
    unused = _unused("N", row.names)
    return ("tells", unused, thing, compare(row.replaced(name, unused), row.replaced(name, thing)))


def name_holds(row, name, thing):
    """Whether any value is a right paper that a row tells nothing of a name, or that it tells something."""
    if not isinstance(thing, tuple):
        return False
    if len(thing) == 1 and thing[0] == "nothing":
        return tells_nothing(row, name)
    if len(thing) != 4 or thing[0] != "tells":
        return False
    _, first, second, paper = thing
    if not _is_without(row.book, name, first) or not _is_without(row.book, name, second):
        return False
    return compare_holds(row.replaced(name, first), row.replaced(name, second), paper) and paper[0] != "alike"


def tells_nothing(row, name):
    """Whether a row tells nothing of a name."""
    return telling_thing(seen_row(row), name) is None


def telling_thing(seen, name):
    """A thing with which in the place of a name a row by numbers is not like the row as it is; None if there is none.

    The row as it is is like the row with any unused name instead. A fresh word can be had, and so can what
    an opening looks for inside of a thing with it. Where these tell nothing, another thing can tell only if
    by it a basic thing and another one become one.
    """
    table = seen.table
    if name not in table.numbers:
        return None
    hidden = table.numbers[name]
    onlooker = Onlooker(seen)
    word = table.leaf(_unused("w", table.numbers))
    needs = [need for opening in seen.book.openings for need in opening[3]]
    first = [word, *[table.whole(need[2], (word,)) for need in needs if need[0] == "inside"]]
    telling = _first_telling(seen, hidden, first)
    if telling is None:
        telling = _first_telling(seen, hidden, _merging_numbers(onlooker, hidden))
    return None if telling is None else table.things_with([telling])[0]


def _first_telling(seen, hidden, numbers):
    """The first of some things with which in the place of a hidden name a row is unlike itself, None if none is."""
    for number in numbers:
        other = Seen(seen.book, seen.table, seen.table.exchanged(seen.shown, hidden, number))
        if not Both(seen, other).are_alike():
            return number
    return None


def _merging_numbers(onlooker, hidden):
    """What makes a basic thing and a piece of the row, or a needed thing, one in the place of a hidden name."""
    table = onlooker.table
    # Other things than these have been numbered since.
    many = onlooker.ways.makes
    changed = {hidden: True}
    for number in range(many):
        if any([part in changed for part in table.parts[number]]):
            changed[number] = True
    found = {}
    for basic in onlooker.basics(onlooker.reach()):
        for number in range(many):
            if table.parts[number] and (number in changed or basic in changed):
                found[_merging(table, hidden, basic, number)] = True
    return [number for number in range(many) if number in found and number not in changed]


def _merging(table, hidden, one, other):
    """The number of what makes two things one in the place of a hidden name; None if nothing does."""
    found = None
    left = [(one, other)]
    while left:
        pair = left.pop()
        one, other = pair
        if one != other and hidden in pair:
            thing = other if one == hidden else one
            if found not in (None, thing):
                return None
            found = thing
        elif one != other:
            parts = table.parts[one]
            if not parts or not table.parts[other] or table.forms[one][0] != table.forms[other][0]:
                return None
            left.extend(list(zip(parts, table.parts[other])))
    return found


def _unused(begin, used):
    """A word or name that begins so and is none of the used things."""
    texts = [begin]
    at = 0
    while texts[at] in used:
        texts.extend([texts[at] + letter for letter in LETTERS])
        at += 1
    return texts[at]


def _is_without(book, name, thing):
    """Whether any value is a thing of a book in which a name does not stand."""
    return book.is_thing(thing) and name not in names_in(thing)
