"""Least sets that do something."""


def least_sets(members, does):
    """The ascending tuple of the least sets of ascending members, told as tuples, of which `does` is true."""
    found = []
    # Bit k of a number stands for member k, so each set comes behind all parts of it.
    for number in range(1 << len(members)):
        if not any([number & least == least for least in found]) and does(_chosen(members, number)):
            found.append(number)
    return tuple(sorted([_chosen(members, number) for number in found]))


def _chosen(members, number):
    return tuple([member for at, member in enumerate(members) if (number >> at) & 1 == 1])
