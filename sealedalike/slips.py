"""The least sets of names that must slip, or of things that must be shown."""

from sealedalike.comparing import both_rows
from sealedalike.leastsets import least_sets
from sealedalike.onlooker import Onlooker
from sealedalike.seen import seen_row
from sealedalike.ways import Reach


def least_slips(row, thing):
    """The least sets of names of the row that let a thing be had."""
    onlooker = Onlooker(seen_row(row), (thing,))
    numbers = onlooker.table.numbers

    def had_at(names):
        return _had_at(onlooker.reach(), [numbers[name] for name in names], onlooker.others)

    return least_sets(row.names, had_at)


def least_shows(row, thing):
    """The least sets of places such that a thing can be had of the row with just these."""
    onlooker = Onlooker(seen_row(row), (thing,))

    def had_at(places):
        return _had_at(Reach(onlooker.ways, True), [onlooker.shown[place] for place in places], onlooker.others)

    return least_sets(list(range(len(row))), had_at)


def slips_apart(one, other):
    """The least sets of names of both rows that part them."""
    both = both_rows(one, other)
    shown = both.pairing()
    if shown.told_at(both.shown) is not None:
        return ((),)
    numbers = both.table.numbers
    names = sorted(set(one.names + other.names))
    return least_sets(names, lambda some: shown.again().told_at([(numbers[name], numbers[name]) for name in some]))


def _had_at(reach, others, wanted):
    """How many of some things must be shown, too, until the wanted ones can be had; None if they cannot be had then."""
    for at, number in enumerate(others):
        if reach.has_all(wanted):
            return at
        reach.put([number])
    return len(others) if reach.has_all(wanted) else None
