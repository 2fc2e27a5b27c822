"""Second, plain implementations of what the document says of two rows, for small rows, to compare with."""

from itertools import product

from tests import plain


def boxes(row):
    some = set(plain.got(row))
    return [
        thing for thing in plain.got(row)
        if not plain.is_word(thing) and (isinstance(thing, str) or not all(plain.made(some, part) for part in thing[1:]))
    ]


def shape(row, thing):
    """The shape of a thing that can be had."""
    numbered = boxes(row)
    if thing in numbered:
        return numbered.index(thing)
    return thing if isinstance(thing, str) else (thing[0], *[shape(row, part) for part in thing[1:]])


def picture(row):
    told = []
    for box in boxes(row):
        comes = [opening for opening in plain.openings_at(row.book, box) if all(plain.had(row, key) for key in opening[1])]
        told.append(tuple((word, tuple(shape(row, key) for key in keys), shape(row, given)) for word, keys, given in comes))
    return (tuple(shape(row, thing) for thing in row.things), tuple(told))


def by_parts(pairs, thing):
    """The partner that a thing has as a word, or by its parts; None if it has none."""
    if isinstance(thing, str):
        return thing if plain.is_word(thing) else None
    parts = [partner(pairs, part) for part in thing[1:]]
    return None if None in parts else (thing[0], *parts)


def partner(pairs, thing):
    there = dict(pairs)
    return there[thing] if thing in there else by_parts(pairs, thing)


def turned(pairs):
    """A table from the right to the left."""
    return tuple(sorted([(right, left) for left, right in pairs], key=lambda pair: plain.text(pair[0])))


def _goes(one, other, pairs):
    """Whether a table is right as it is looked at from the left."""
    if [partner(pairs, thing) for thing in one.things] != list(other.things):
        return False
    for left, right in pairs:
        if plain.is_word(left) and right != left:
            return False
        if not plain.is_word(left) and by_parts(pairs, left) not in (None, right):
            return False
        for word, keys, given in plain.openings_at(one.book, left):
            partners = tuple(partner(pairs, key) for key in keys)
            if None not in partners:
                wanted = (word, partners, partner(pairs, given))
                if wanted not in plain.openings_at(one.book, right):
                    return False
    return True


def is_table(one, other, pairs):
    """Whether a tuple of pairs of things of the book shows that two rows are alike."""
    texts = [(plain.text(left), plain.text(right)) for left, right in pairs]
    if texts != sorted(set(texts)) or len(dict(pairs)) < len(pairs) or len(dict(turned(pairs))) < len(pairs):
        return False
    return _goes(one, other, pairs) and _goes(other, one, turned(pairs))


def tells_apart(one, other, paper):
    """Whether a paper with one or two recipes for the rows is right."""
    left = [plain.value(one, recipe) for recipe in paper[1:]]
    right = [plain.value(other, recipe) for recipe in paper[1:]]
    if paper[0] == "comes":
        return (left[0] is None) != (right[0] is None)
    return None not in left + right and (left[0] == left[1]) != (right[0] == right[1])


def _opened(one, other, there, sizes, total):
    """What openings at things of the one row give that come at it, with the size, and what comes at the other one."""
    for thing, own in list(sizes.items()):
        for word, keys, given in plain.openings_at(one.book, thing):
            if all(key in there for key in keys) and 1 + own + sum(sizes[key] for key in keys) == total:
                handed = tuple(there[key] for key in keys)
                told = [at for at in plain.openings_at(other.book, there[thing]) if at[:2] == (word, handed)]
                yield (given, told[0][2] if told else None)


def told_within(one, other, words, limit):
    """Whether recipes with these words, of written-out sizes up to a limit, tell two rows apart."""
    there, back, sizes, own = {}, {}, {}, {}
    by_size = {0: []}
    for total in range(1, limit + 1):
        found = [*zip(one.things, other.things), *zip(words, words)] if total == 1 else []
        for kind, many in one.book.kinds:
            for split in product(range(1, total), repeat=many):
                if sum(split) == total - 1:
                    for parts in product(*[by_size[part] for part in split]):
                        found.append(((kind, *[part[0] for part in parts]), (kind, *[part[1] for part in parts])))
        found += list(_opened(one, other, there, sizes, total))
        found += [(left, right) for right, left in _opened(other, one, back, own, total)]
        by_size[total] = []
        for left, right in found:
            if left is None or right is None or there.get(left, right) != right or back.get(right, left) != left:
                return True
            if left not in there:
                there[left], back[right] = right, left
                sizes[left] = own[right] = total
                by_size[total].append((left, right))
    return False
