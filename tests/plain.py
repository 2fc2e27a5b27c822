"""Second, plain implementations of what the document says, for small rows, to compare with."""

from itertools import product


def text(thing):
    return thing if isinstance(thing, str) else f"{thing[0]}({','.join(text(part) for part in thing[1:])})"


def ascending(things):
    return tuple(sorted(set(things), key=text))


def pieces(thing):
    """All pieces of a thing, as a set."""
    parts = thing[1:] if isinstance(thing, tuple) else ()
    return {thing}.union(*[pieces(part) for part in parts])


def size(thing):
    return 1 if isinstance(thing, str) else 1 + sum(size(part) for part in thing[1:])


def is_word(thing):
    return isinstance(thing, str) and thing[0].islower()


def needed(opening, thing):
    """What an opening, told with its needs, asks for at a thing; None if there is no such thing."""
    found = []
    for need in opening[3]:
        if need[0] == "part":
            found.append(thing[1 + need[1]])
        elif need[0] == "around":
            found.append((need[1], thing[1 + need[2]]))
        else:
            part = thing[1 + need[1]]
            if isinstance(part, str) or part[0] != need[2]:
                return None
            found.append(part[1])
    return tuple(found)


def made(some, thing):
    """Whether a thing is made of some."""
    if thing in some or is_word(thing):
        return True
    return isinstance(thing, tuple) and all(made(some, part) for part in thing[1:])


def openings_at(book, thing):
    """What openings at a thing need and give: (opening, needed, given), those without such things left out."""
    if isinstance(thing, str):
        return []
    found = [(row, needed(row, thing)) for row in book.openings if row[1] == thing[0]]
    return [(row[0], keys, thing[1 + row[2]]) for row, keys in found if keys is not None]


def got(row):
    things = []
    for thing in row.things:
        if thing not in things:
            things.append(thing)

    def following():
        for thing in things:
            for _, keys, given in openings_at(row.book, thing):
                if given not in things and all(made(set(things), key) for key in keys):
                    return given
        return None

    given = following()
    while given is not None:
        things.append(given)
        given = following()
    return tuple(things)


def had(row, thing):
    return made(set(got(row)), thing)


def basis(row):
    some = set(got(row))
    return ascending([
        thing for thing in some
        if not is_word(thing) and (isinstance(thing, str) or not all(made(some, part) for part in thing[1:]))
    ])


def is_closed(row, things, about):
    """Whether a tuple of things of the book is a closed set without a thing."""
    if things != ascending(things) or made(set(things), about):
        return False
    if not all(made(set(things), thing) for thing in row.things):
        return False
    for thing in things:
        for _, keys, given in openings_at(row.book, thing):
            if all(made(set(things), key) for key in keys) and not made(set(things), given):
                return False
    return True


def value(row, recipe):
    """What a recipe comes to; only the steps that the last one needs are looked at."""
    known = {}

    def come(at):
        if at not in known:
            known[at] = computed(recipe[at])
        return known[at]

    def computed(step):
        if step[0] == "shown":
            return row.things[step[1]]
        if step[0] == "word":
            return step[1]
        handed = [come(number) for number in step[2]]
        if None in handed:
            return None
        if step[0] == "make":
            return (step[1], *handed)
        opening = [told for told in row.book.openings if told[0] == step[1]][0]
        thing, *keys = handed
        if isinstance(thing, str) or thing[0] != opening[1] or needed(opening, thing) != tuple(keys):
            return None
        return thing[1 + opening[2]]

    return come(len(recipe) - 1)


def written_out(recipe, at=-1):
    step = recipe[at]
    return 1 + sum(written_out(recipe, number) for number in (step[2] if len(step) == 3 else ()))


def least_sizes(row, words, limit):
    """All things that recipes with these words and written-out sizes up to a limit come to, with the least ones."""
    known = {}
    by_size = {0: []}
    counts = sorted({many for _, many in row.book.kinds})

    def splits(many, total):
        if many == 1:
            return [(total,)] if total > 0 else []
        return [(first, *rest) for first in range(1, total) for rest in splits(many - 1, total - first)]

    for total in range(1, limit + 1):
        found = [*row.things, *words] if total == 1 else []
        for many in counts:
            tuples = [parts for split in splits(many, total - 1) for parts in product(*[by_size[k] for k in split])]
            found += [(kind, *parts) for kind, own in row.book.kinds if own == many for parts in tuples]
        for thing, own in list(known.items()):
            for _, keys, given in openings_at(row.book, thing):
                if all(key in known for key in keys) and 1 + own + sum(known[key] for key in keys) == total:
                    found.append(given)
        by_size[total] = []
        for thing in found:
            if thing not in known:
                known[thing] = total
                by_size[total].append(thing)
    return known


def over(row, words, limit):
    """All things over words by their sizes up to a limit."""
    by_size = {}
    for total in range(1, limit + 1):
        found = {thing for thing in (*basis(row), *words) if size(thing) == total}
        for kind, many in row.book.kinds:
            for sizes in product(range(1, total), repeat=many):
                if sum(sizes) == total - 1:
                    found |= {(kind, *parts) for parts in product(*[by_size[part] for part in sizes])}
        by_size[total] = found
    return by_size
