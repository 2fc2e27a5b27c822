"""The least sets of names that must slip, or of things that must be shown."""

from sealedalike.comparing import is_alike, must_match
from sealedalike.having import is_had
from sealedalike.leastsets import least_sets
from sealedalike.rows import Row


def least_slips(row, thing):
    """The least sets of names of the row that let a thing be had."""
    return least_sets(row.names, lambda names: is_had(_with_names(row, names), thing))


def least_shows(row, thing):
    """The least sets of places such that a thing can be had of the row with just these."""
    return least_sets(list(range(len(row))), lambda places: is_had(row.only(places), thing))


def slips_apart(one, other):
    """The least sets of names of both rows that part them."""
    must_match(one, other)
    both = sorted(set(one.names + other.names))
    return least_sets(both, lambda names: not is_alike(_with_names(one, names), _with_names(other, names)))


def _with_names(row, names):
    """The row with names shown behind it."""
    return Row(row.book, row.things + names)
