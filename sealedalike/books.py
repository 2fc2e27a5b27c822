"""Books: of which kinds things are made, and what can be got out of them."""

from sealedalike.errors import BadBook, BadText, BadThing
from sealedalike.numbering import Table
from sealedalike.parsing import number_with_text
from sealedalike.things import is_word, pieces_of_kinds

STANDARD_KINDS = (("half", 1), ("lock", 2), ("mark", 1), ("pair", 2), ("seal", 2), ("sign", 2))
STANDARD_OPENINGS = (
    ("first", "pair", 0, ()),
    ("open", "lock", 0, (("part", 1),)),
    ("second", "pair", 1, ()),
    ("shown", "sign", 0, ()),
    ("signed", "sign", 0, (("around", "half", 1),)),
    ("unseal", "seal", 0, (("inside", 1, "half"),)),
)
MOST_PARTS = 3
MOST_NEEDS = 2
# No number in a book is greater, so a longer numeral is never right.
NUMERALS = {"0": 0, "1": 1, "2": 2, "3": 3}


class Book:
    """Kinds of things, and openings that give parts of them."""

    def __init__(self, kinds, openings):
        if not isinstance(kinds, tuple) or len(kinds) == 0 or _right_kinds(kinds) < len(kinds):
            raise BadBook("kinds")
        if not isinstance(openings, tuple) or _right_openings(kinds, openings) < len(openings):
            raise BadBook("openings")
        self.kinds = kinds
        self.openings = openings

    def __eq__(self, other):
        return isinstance(other, Book) and self.kinds == other.kinds and self.openings == other.openings

    def __str__(self):
        kinds = [f"kind {kind} {many}" for kind, many in self.kinds]
        openings = [_opening_line(opening) for opening in self.openings]
        return "\n".join([*kinds, *openings])

    @classmethod
    def read(cls, text):
        """The book with a text; BadText tells the first wrong line of any other value."""
        if not isinstance(text, str):
            raise BadText(0)
        kinds, openings = _kinds_and_openings(text.split("\n"))
        try:
            return cls(tuple(kinds), tuple(openings))
        except BadBook as wrong:
            right = _right_kinds(kinds) if wrong.part == "kinds" else len(kinds) + _right_openings(kinds, openings)
            raise BadText(1 + right) from None

    def is_thing(self, thing):
        """Whether any value is a thing of this book."""
        return pieces_of_kinds(dict(self.kinds), [thing]) is not None

    def read_thing(self, text):
        """The thing of this book with a text; BadThing for any other value."""
        table = Table()
        number = number_with_text(table, dict(self.kinds), text) if isinstance(text, str) else None
        if number is None:
            raise BadThing(text)
        return table.things_with([number])[0]

    def needed(self, opening, thing):
        """What must be handed in to open a thing, in order; None if an "inside" finds nothing."""
        needs = [row[3] for row in self.openings if row[0] == opening][0]
        found = [_needed_thing(need, thing) for need in needs]
        return None if None in found else tuple(found)


def standard_book():
    """The standard book."""
    return Book(STANDARD_KINDS, STANDARD_OPENINGS)


def _is_integer(value, low, high):
    return isinstance(value, int) and not isinstance(value, bool) and low <= value <= high


def _right_kinds(kinds):
    """How many of the items ahead are kinds with their numbers of parts and ascend."""
    last = ""
    for at, kind in enumerate(kinds):
        if not isinstance(kind, tuple) or len(kind) != 2:
            return at
        word, many = kind
        if not is_word(word) or word <= last or not _is_integer(many, 1, MOST_PARTS):
            return at
        last = word
    return len(kinds)


def _right_openings(kinds, openings):
    """How many of the items ahead are openings of a book with these kinds and ascend."""
    counts = dict(kinds)
    last = ""
    for at, opening in enumerate(openings):
        if not _is_opening(counts, opening) or opening[0] <= last:
            return at
        last = opening[0]
    return len(openings)


def _is_opening(counts, opening):
    """Whether any value is an opening of a book whose kinds have these numbers of parts."""
    if not isinstance(opening, tuple) or len(opening) != 4:
        return False
    word, kind, given, needs = opening
    # A list among the values cannot be looked up, so words are asked for first.
    if not is_word(word) or word in counts or not isinstance(kind, str) or kind not in counts:
        return False
    last = counts[kind] - 1
    if not _is_integer(given, 0, last) or not isinstance(needs, tuple) or len(needs) > MOST_NEEDS:
        return False
    for need in needs:
        if not _is_need(counts, last, need):
            return False
    return True


def _is_need(counts, last, need):
    """Whether any value is a need at a kind whose last part has this number."""
    if not isinstance(need, tuple) or len(need) not in (2, 3):
        return False
    if len(need) == 2:
        return need[0] == "part" and _is_integer(need[1], 0, last)
    if need[0] == "around":
        return _has_one_part(counts, need[1]) and _is_integer(need[2], 0, last)
    return need[0] == "inside" and _is_integer(need[1], 0, last) and _has_one_part(counts, need[2])


def _has_one_part(counts, kind):
    return isinstance(kind, str) and counts.get(kind, 0) == 1


def _needed_thing(need, thing):
    """The thing that a need asks for, None if it finds nothing."""
    if need[0] == "part":
        return thing[need[1] + 1]
    if need[0] == "around":
        return (need[1], thing[need[2] + 1])
    part = thing[need[1] + 1]
    # A word is no tuple, but it has a first item, too, which might look like a kind.
    return part[1] if isinstance(part, tuple) and part[0] == need[2] else None


def _opening_line(opening):
    word, kind, given, needs = opening
    told = [str(part) for need in needs for part in need]
    return " ".join(["opening", word, kind, str(given), *told])


def _kinds_and_openings(lines):
    """The lists of the kinds and openings that lines tell, right or not; None stands for the first that tells none."""
    kinds = []
    openings = []
    for line in lines:
        words = line.split(" ")
        if words[0] == "kind" and not openings:
            told = _kind_in(words)
            kinds.append(told)
        else:
            told = _opening_in(words)
            openings.append(told)
        if told is None:
            break
    return kinds, openings


def _kind_in(words):
    """The kind and its number of parts that the words of a line tell, right or not."""
    return (words[1], NUMERALS.get(words[2])) if len(words) == 3 else None


def _opening_in(words):
    """The opening that the words of a line tell, right or not."""
    if len(words) < 4 or words[0] != "opening":
        return None
    needs = _needs_in(words[4:]) if len(words) > 4 else ()
    return (words[1], words[2], NUMERALS.get(words[3]), needs)


def _needs_in(words):
    """The tuple of the needs that the last words of a line tell, right or not."""
    left = [NUMERALS.get(word, word) for word in words]
    needs = []
    while left:
        many = 2 if left[0] == "part" else 3
        needs.append(tuple(left[:many]))
        left = left[many:]
    return tuple(needs)
