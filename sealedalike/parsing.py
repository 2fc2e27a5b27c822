"""Things and numbers from their texts."""

from sealedalike.things import is_name, is_word


def number_in(word):
    """The integer from 0 on that Python writes as this word; None if there is none."""
    if not word.isascii() or not word.isdigit():
        return None
    if word[0] == "0" and len(word) > 1:
        return None
    number = 0
    # `int` refuses words that are much longer than those that the document speaks of.
    for sign in word:
        number = 10 * number + int(sign)
    return number


def number_with_text(table, counts, text):
    """The number, in a table, of the thing with a text, for kinds with such numbers of parts; None if there is none."""
    kinds = []
    outer = []
    parts = []
    # Items are kinds with their opening brackets, closing brackets, words and names.
    for item in text.replace("(", "(,").replace(")", ",)").split(","):
        if item in table.numbers:
            parts.append(table.numbers[item])
        elif item == ")":
            if not kinds or counts[kinds[-1]] != len(parts):
                return None
            outer[-1].append(table.whole(kinds.pop(), parts))
            parts = outer.pop()
        elif item[-1:] == "(":
            if item[:-1] not in counts:
                return None
            kinds.append(item[:-1])
            outer.append(parts)
            parts = []
        elif is_word(item) or is_name(item):
            parts.append(table.leaf(item))
        else:
            return None
    return parts[0] if not kinds and len(parts) == 1 else None
