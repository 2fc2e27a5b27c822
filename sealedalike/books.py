"""Books: of which kinds things are made, and what can be got out of them."""

from sealedalike.errors import BadBook, BadText, BadThing
from sealedalike.parsing import thing_with_text
from sealedalike.things import ascends, is_name, is_word

STANDARD_KINDS = (("half", 1), ("lock", 2), ("mark", 1), ("pair", 2), ("seal", 2), ("sign", 2))
STANDARD_OPENINGS = (
    ("first", "pair", 0, ()),
    ("open", "lock", 0, (("part", 1),)),
    ("second", "pair", 1, ()),
    ("shown", "sign", 0, ()),
    ("signed", "sign", 0, (("around", "half", 1),)),
    ("unseal", "seal", 0, (("inside", 1, "half"),)),
)
MOST_PARTS = 3
MOST_NEEDS = 2
# No number in a book is greater, so a longer numeral is never right.
NUMERALS = {"0": 0, "1": 1, "2": 2, "3": 3}


class Book:
    """Kinds of things, and openings that give parts of them."""

    def __init__(self, kinds, openings):
        if not _are_kinds(kinds):
            raise BadBook("kinds")
        if not _are_openings(dict(kinds), openings):
            raise BadBook("openings")
        self.kinds = kinds
        self.openings = openings

    def __eq__(self, other):
        return isinstance(other, Book) and self.kinds == other.kinds and self.openings == other.openings

    def __str__(self):
        kinds = [f"kind {kind} {many}" for kind, many in self.kinds]
        openings = [_opening_line(opening) for opening in self.openings]
        return "\n".join([*kinds, *openings])

    @classmethod
    def read(cls, text):
        """The book with a text; BadText tells the first wrong line of any other value."""
        if not isinstance(text, str):
            raise BadText(0)
        kinds = []
        openings = []
        for number, line in enumerate(text.split("\n"), start=1):
            parts = [NUMERALS.get(word, word) for word in line.split(" ")]
            if not openings and _is_kind_line(kinds, parts):
                kinds.append(tuple(parts[1:]))
            elif _is_opening_line(kinds, openings, parts):
                openings.append(_opening_in(parts))
            else:
                raise BadText(number)
        return cls(tuple(kinds), tuple(openings))

    def is_thing(self, thing):
        """Whether any value is a thing of this book."""
        counts = dict(self.kinds)
        left = [thing]
        while left:
            piece = left.pop()
            if isinstance(piece, tuple):
                if not _has_all_parts(counts, piece):
                    return False
                left.extend(piece[1:])
            elif not is_word(piece) and not is_name(piece):
                return False
        return True

    def read_thing(self, text):
        """The thing of this book with a text; BadThing for any other value."""
        thing = thing_with_text(dict(self.kinds), text) if isinstance(text, str) else None
        if thing is None:
            raise BadThing(text)
        return thing

    def needed(self, opening, thing):
        """What must be handed in to open a thing, in order; None if an "inside" finds nothing."""
        needs = [row[3] for row in self.openings if row[0] == opening][0]
        found = [_needed_thing(need, thing) for need in needs]
        return None if None in found else tuple(found)


def standard_book():
    """The standard book."""
    return Book(STANDARD_KINDS, STANDARD_OPENINGS)


def _is_integer(value, low, high):
    return isinstance(value, int) and not isinstance(value, bool) and low <= value <= high


def _are_kinds(kinds):
    if not isinstance(kinds, tuple) or len(kinds) == 0:
        return False
    return all([_is_kind(kind) for kind in kinds]) and ascends([kind[0] for kind in kinds])


def _is_kind(kind):
    if not isinstance(kind, tuple) or len(kind) != 2:
        return False
    return is_word(kind[0]) and _is_integer(kind[1], 1, MOST_PARTS)


def _are_openings(counts, openings):
    if not isinstance(openings, tuple):
        return False
    right = all([_is_opening(counts, opening) for opening in openings])
    return right and ascends([opening[0] for opening in openings])


def _is_opening(counts, opening):
    """Whether any value is an opening of a book whose kinds have these numbers of parts."""
    if not isinstance(opening, tuple) or len(opening) != 4:
        return False
    word, kind, given, needs = opening
    # A list among the values cannot be looked up, so words are asked for first.
    if not is_word(word) or word in counts or not is_word(kind) or kind not in counts:
        return False
    last = counts[kind] - 1
    if not _is_integer(given, 0, last) or not isinstance(needs, tuple) or len(needs) > MOST_NEEDS:
        return False
    return all([_is_need(counts, last, need) for need in needs])


def _is_need(counts, last, need):
    """Whether any value is a need at a kind whose last part has this number."""
    if not isinstance(need, tuple) or len(need) not in (2, 3):
        return False
    if len(need) == 2:
        return need[0] == "part" and _is_integer(need[1], 0, last)
    if need[0] == "around":
        return _has_one_part(counts, need[1]) and _is_integer(need[2], 0, last)
    return need[0] == "inside" and _is_integer(need[1], 0, last) and _has_one_part(counts, need[2])


def _has_one_part(counts, kind):
    return is_word(kind) and counts.get(kind, 0) == 1


def _has_all_parts(counts, thing):
    """Whether a tuple has a kind ahead and as many items behind it as this kind has parts."""
    if len(thing) == 0 or not is_word(thing[0]) or thing[0] not in counts:
        return False
    return len(thing) == counts[thing[0]] + 1


def _needed_thing(need, thing):
    """The thing that a need asks for, None if it finds nothing."""
    if need[0] == "part":
        return thing[need[1] + 1]
    if need[0] == "around":
        return (need[1], thing[need[2] + 1])
    part = thing[need[1] + 1]
    # A word is no tuple, but it has a first item, too, which might look like a kind.
    return part[1] if isinstance(part, tuple) and part[0] == need[2] else None


def _opening_line(opening):
    word, kind, given, needs = opening
    told = [str(part) for need in needs for part in need]
    return " ".join(["opening", word, kind, str(given), *told])


def _is_kind_line(kinds, parts):
    """Whether the parts of a line tell a kind that may stand behind these kinds."""
    if parts[0] != "kind" or not _is_kind(tuple(parts[1:])):
        return False
    return not kinds or kinds[-1][0] < parts[1]


def _is_opening_line(kinds, openings, parts):
    """Whether the parts of a line tell an opening that may stand behind these kinds and openings."""
    if parts[0] != "opening" or len(parts) < 4 or not _is_opening(dict(kinds), _opening_in(parts)):
        return False
    return not openings or openings[-1][0] < parts[1]


def _opening_in(parts):
    """The opening that the parts of a line tell, right or not."""
    needs = []
    at = 4
    while at < len(parts):
        end = at + 2 if parts[at] == "part" else at + 3
        needs.append(tuple(parts[at:end]))
        at = end
    return (parts[1], parts[2], parts[3], tuple(needs))
