"""Tables of pairs, by which the things of one row are carried to those of another one and back."""

from sealedalike.things import is_word


def shows_alike(one, other, pairs):
    """Whether pairs of numbers, none twice on the left, show that two rows by the numbers of one table are alike."""
    table = one.table
    there = dict(pairs)
    back = {right: left for left, right in pairs}
    if len(back) < len(pairs):
        return False
    # Before any partners are looked for, as what the openings need must have its partner, too.
    chances = {number: [] for pair in pairs for number in pair}
    for word, (number, *needed), given in table.openings_at(one.book, list(chances)):
        chances[number].append((word, needed, given))
    partners = _partners(table, there)
    if [partners.get(number) for number in one.shown] != other.shown:
        return False
    return _are_kept(table, chances, there, partners) and _are_kept(table, chances, back, _partners(table, back))


def _partners(table, given):
    """The partners of all things of a table that have one, from some given ones."""
    partners = {}
    for number in range(len(table.forms)):
        partner = given[number] if number in given else _made_partner(table, partners, number)
        if partner is not None:
            partners[number] = partner
    return partners


def _made_partner(table, partners, number):
    """The partner that a thing has by its parts, or as a word, whatever is given; None if it has none."""
    parts = table.parts[number]
    if is_word(table.forms[number]):
        return number
    if not parts or not all([part in partners for part in parts]):
        return None
    return table.whole(table.forms[number][0], [partners[part] for part in parts])


def _are_kept(table, chances, given, partners):
    """Whether the given partners are as their parts ask for, and whether the openings at them are the same."""
    for left, right in given.items():
        made = _made_partner(table, partners, left)
        if made is not None and made != right:
            return False
        for word, needed, part in chances[left]:
            handed = [partners.get(number) for number in needed]
            if None not in handed and (word, handed, partners.get(part)) not in chances[right]:
                return False
    return True
