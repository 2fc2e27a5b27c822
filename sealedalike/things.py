"""Words, names and things of any book.

A thing may nest deeper than Python lets functions call themselves, so nothing here does that:
the pieces are listed, parts always behind what they are parts of, and the list is worked off
from its end.
"""

LETTERS = "abcdefghijklmnopqrstuvwxyz"
CAPITALS = "ABCDEFGHIJKLMNOPQRSTUVWXYZ"
DIGITS = "0123456789"
LONGEST = 8


def is_word(thing):
    """Whether any value is a word."""
    if not isinstance(thing, str) or not 1 <= len(thing) <= LONGEST:
        return False
    return all([sign in LETTERS for sign in thing])


def is_name(thing):
    """Whether any value is a name."""
    if not isinstance(thing, str) or not 1 <= len(thing) <= LONGEST:
        return False
    return thing[0] in CAPITALS and all([sign in LETTERS or sign in DIGITS for sign in thing[1:]])


def all_pieces(things):
    """The list of the pieces of things, each as often as it stands there: the things, then all parts.

    The parts of a piece stand side by side, and in the order of the pieces that they are parts of.
    """
    pieces = list(things)
    at = 0
    while at < len(pieces):
        piece = pieces[at]
        if isinstance(piece, tuple):
            pieces.extend(piece[1:])
        at += 1
    return pieces


def all_texts(pieces):
    """The list of the texts of pieces that are listed as `all_pieces` lists them."""
    texts = list(pieces)
    end = len(pieces)
    for at in reversed(range(len(pieces))):
        piece = pieces[at]
        if isinstance(piece, tuple):
            begin = end - len(piece) + 1
            inside = ",".join(texts[begin:end])
            texts[at] = f"{piece[0]}({inside})"
            end = begin
    return texts


def ascending(things, texts):
    """The tuple of the things with these texts, by their texts, each once."""
    by_text = dict(zip(texts, things))
    return tuple([by_text[text] for text in sorted(by_text)])


def ascends(texts):
    """Whether strings ascend, none of them twice."""
    return all([left < right for left, right in zip(texts, texts[1:])])


def text_of(thing):
    """The text of a thing."""
    return all_texts(all_pieces([thing]))[0]


def texts_of(things):
    """The list of the texts of things."""
    return all_texts(all_pieces(things))[:len(things)]


def pieces_of(thing):
    """The tuple of the pieces of a thing, each once, by their texts."""
    pieces = all_pieces([thing])
    return ascending(pieces, all_texts(pieces))


def size_of(thing):
    """How many pieces a thing has, each as often as it stands in it."""
    return len(all_pieces([thing]))


def names_in(thing):
    """The ascending tuple of the names in a thing."""
    return tuple(sorted({piece for piece in all_pieces([thing]) if is_name(piece)}))


def words_in(thing):
    """The ascending tuple of the words that are pieces of a thing."""
    return tuple(sorted({piece for piece in all_pieces([thing]) if is_word(piece)}))


def exchanged(thing, others):
    """The thing with other things, told by a dict, in the places of names, everywhere and all at once."""
    pieces = all_pieces([thing])
    made = list(pieces)
    end = len(pieces)
    for at in reversed(range(len(pieces))):
        piece = pieces[at]
        if isinstance(piece, tuple):
            begin = end - len(piece) + 1
            made[at] = (piece[0], *made[begin:end])
            end = begin
        else:
            made[at] = others.get(piece, piece)
    return made[0]


def replaced(thing, name, other):
    """The thing with another one in the place of a name, everywhere."""
    return exchanged(thing, {name: other})
