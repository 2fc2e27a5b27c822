"""Things and numbers from their texts."""

from sealedalike.things import DIGITS, is_name, is_word


def number_in(word):
    """The integer from 0 on that Python writes as this word; None if there is none."""
    if word == "" or not all([sign in DIGITS for sign in word]):
        return None
    if word[0] == "0" and len(word) > 1:
        return None
    number = 0
    # `int` refuses words that are much longer than those that the document speaks of.
    for sign in word:
        number = 10 * number + int(sign)
    return number


def thing_with_text(counts, text):
    """The thing with a text, for kinds with these numbers of parts; None if there is none."""
    stack = []
    for token in _tokens(text):
        stack.append(token)
        if token == ")":
            begin = _last_bracket(stack) - 1
            thing = _closed_thing(counts, stack[begin:]) if begin >= 0 else None
            if thing is None:
                return None
            stack[begin:] = [thing]
    return stack[0] if len(stack) == 1 and _is_part(stack[0]) else None


def _tokens(text):
    """The brackets and commas of a text, and what stands between them, in order."""
    tokens = []
    begin = 0
    for at, sign in enumerate(text):
        if sign in "(),":
            tokens.extend([text[begin:at], sign])
            begin = at + 1
    tokens.append(text[begin:])
    return [token for token in tokens if token]


def _last_bracket(stack):
    """The index of the last opening bracket, -1 if there is none."""
    for at in reversed(range(len(stack))):
        if stack[at] == "(":
            return at
    return -1


def _closed_thing(counts, tokens):
    """The thing from a kind, an opening bracket, parts with commas and a closing bracket, or None."""
    kind = tokens[0]
    inside = tokens[2:-1]
    parts = inside[::2]
    if not isinstance(kind, str) or kind not in counts or counts[kind] != len(parts):
        return None
    if inside[1::2] != [","] * (len(parts) - 1) or not all([_is_part(part) for part in parts]):
        return None
    return (kind, *parts)


def _is_part(token):
    return isinstance(token, tuple) or is_word(token) or is_name(token)
