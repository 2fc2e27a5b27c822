"""Least sets that do something, where each set does it of which a part does.

Sets are told by integers here: bit k of them stands for member k.
"""


def least_sets(members, done_at):
    """The ascending tuple of the least sets of ascending members that do something, each told as a tuple.

    `done_at` tells of a list of members how many of them, from the first one on, do it; None if all don't.
    """
    found = []
    idle = []
    # Still to be looked at are all sets that have a first set in them and lie in a second one.
    left = [(0, (1 << len(members)) - 1)]
    while left:
        inside, around = left.pop()
        if any([inside & least == least for least in found]):
            continue
        least = _least_known(found, around)
        if least is None and not any([around & other == around for other in idle]):
            least = _least_within(members, around, done_at, idle)
            if least is not None:
                found.append(least)
        # Each other least set lacks a member of this one, but has those ahead of the first that it lacks.
        lacking = [] if least is None else _places(least & ~inside)
        for place in lacking:
            left.append((inside, around & ~(1 << place)))
            inside |= 1 << place
    return tuple(sorted([tuple([members[place] for place in _places(least)]) for least in found]))


def _least_known(found, around):
    """A found set that lies in a set, None if there is none."""
    within = [least for least in found if around & least == least]
    return within[0] if within else None


def _least_within(members, around, done_at, idle):
    """A least set that lies in a set, None if there is none; sets that do nothing are put to the idle ones."""
    kept = []
    others = _places(around)
    done = done_at([members[place] for place in others])
    if done is None:
        idle.append(around)
        return None
    # Those that do it need the last one of them. With this one kept, perhaps fewer of the others do it; as soon as
    # the kept ones do it by themselves, none of them can be left out.
    while done > len(kept):
        ahead = others[:done - len(kept) - 1]
        idle.append(_set_of(kept + ahead))
        kept.append(others[len(ahead)])
        others = ahead
        done = done_at([members[place] for place in kept + others]) if others else len(kept)
    return _set_of(kept)


def _places(number):
    return [place for place in range(number.bit_length()) if (number >> place) & 1 == 1]


def _set_of(places):
    return sum([1 << place for place in places])
