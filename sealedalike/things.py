"""Words, names and things of any book.

A thing may nest deeper than Python lets functions call themselves, so nothing here does that:
the pieces are listed, parts always behind what they are parts of, and the list is worked off
from its end.
"""

LETTERS = "abcdefghijklmnopqrstuvwxyz"
LONGEST = 8


def is_word(thing):
    """Whether any value is a word."""
    return isinstance(thing, str) and len(thing) <= LONGEST and thing.isascii() and thing.isalpha() and thing.islower()


def is_name(thing):
    """Whether any value is a name."""
    if not isinstance(thing, str) or not 1 <= len(thing) <= LONGEST or not thing.isascii() or not thing.isalnum():
        return False
    return "A" <= thing[0] <= "Z" and thing == thing.capitalize()


def all_pieces(things):
    """The list of the pieces of things, each as often as it stands there: the things, then all parts.

    The parts of a piece stand side by side, and in the order of the pieces that they are parts of.
    """
    pieces = []
    level = list(things)
    while level:
        pieces.extend(level)
        level = [part for piece in level if isinstance(piece, tuple) for part in piece[1:]]
    return pieces


def pieces_of_kinds(counts, things):
    """The same list, where the kinds of things have these numbers of parts; None if a value is no such thing."""
    pieces = []
    leaves = {}
    level = list(things)
    while level:
        pieces.extend(level)
        following = []
        for piece in list(level):
            if isinstance(piece, str):
                leaves[piece] = True
            elif isinstance(piece, tuple) and _has_all_parts(counts, piece):
                following.extend(piece[1:])
            else:
                return None
        level = following
    return pieces if all([is_word(leaf) or is_name(leaf) for leaf in leaves]) else None


def _has_all_parts(counts, thing):
    """Whether a tuple has a kind ahead and as many items behind it as this kind has parts."""
    return len(thing) > 1 and isinstance(thing[0], str) and counts.get(thing[0]) == len(thing) - 1


def all_texts(pieces):
    """The list of the texts of pieces that are listed as `all_pieces` lists them."""
    texts = list(pieces)
    end = len(pieces)
    for at in reversed(range(len(pieces))):
        piece = pieces[at]
        if isinstance(piece, tuple):
            begin = end - len(piece) + 1
            texts[at] = f"{piece[0]}({','.join(texts[begin:end])})"
            end = begin
    return texts


def ascending(things, texts):
    """The tuple of the things with these texts, by their texts, each once."""
    by_text = dict(zip(texts, things))
    return tuple([by_text[text] for text in sorted(by_text)])


def ascends(texts):
    """Whether strings ascend, none of them twice."""
    return all([left < right for left, right in zip(texts, texts[1:])])


def text_of(thing):
    """The text of a thing."""
    return all_texts(all_pieces([thing]))[0]


def texts_of(things):
    """The list of the texts of things."""
    return all_texts(all_pieces(things))[:len(things)]


def pieces_of(thing):
    """The tuple of the pieces of a thing, each once, by their texts."""
    pieces = all_pieces([thing])
    return ascending(pieces, all_texts(pieces))


def size_of(thing):
    """How many pieces a thing has, each as often as it stands in it."""
    return len(all_pieces([thing]))


def names_in(thing):
    """The ascending tuple of the names in a thing."""
    return tuple(sorted({piece for piece in all_pieces([thing]) if is_name(piece)}))


def words_in(thing):
    """The ascending tuple of the words that are pieces of a thing."""
    return tuple(sorted({piece for piece in all_pieces([thing]) if is_word(piece)}))


def exchanged(thing, others):
    """The thing with other things, told by a dict, in the places of names, everywhere and all at once."""
    pieces = all_pieces([thing])
    made = list(pieces)
    end = len(pieces)
    for at in reversed(range(len(pieces))):
        piece = pieces[at]
        if isinstance(piece, tuple):
            begin = end - len(piece) + 1
            made[at] = (piece[0], *made[begin:end])
            end = begin
        else:
            made[at] = others.get(piece, piece)
    return made[0]


def replaced(thing, name, other):
    """The thing with another one in the place of a name, everywhere."""
    return exchanged(thing, {name: other})
