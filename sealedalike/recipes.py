"""Recipes: step by step, what anybody can make of the things of a row."""

from sealedalike.course import Course
from sealedalike.errors import BadText
from sealedalike.parsing import number_in
from sealedalike.seen import seen_row
from sealedalike.things import is_word

MOST_NUMBERS = 3


def is_recipe(row, thing):
    """Whether any value is a recipe for rows over the row's book with as many things."""
    return is_recipe_over(row.book, len(row), thing)


def is_recipe_over(book, many, thing):
    """Whether any value is a recipe for rows over a book with so many things."""
    if not isinstance(thing, tuple) or len(thing) == 0:
        return False
    wanted = {"make": dict(book.kinds), "open": {opening: 1 + len(needs) for opening, _, _, needs in book.openings}}
    for at, step in enumerate(thing):
        if not _is_step(wanted, many, at, step):
            return False
    return True


def value_of(row, recipe):
    """The thing to which a recipe comes, None if to nothing."""
    seen = seen_row(row)
    number = value_in(seen, recipe)
    return None if number is None else seen.table.things_with([number])[0]


def written_size(recipe):
    """The written-out size of a recipe."""
    sizes = []
    for step in recipe:
        sizes.append(1 + sum([sizes[number] for number in named_in(step)]))
    return sizes[-1]


def recipe_text(recipe):
    """The text of a recipe."""
    return ";".join([_step_text(step) for step in recipe])


def read_recipe(text):
    """The steps with a text; BadText tells the first wrong step of any other value."""
    if not isinstance(text, str):
        raise BadText(0)
    steps = []
    for words in [part.split(" ") for part in text.split(";")]:
        step = _step_in(words, len(steps))
        if step is None:
            raise BadText(len(steps) + 1)
        steps.append(step)
    return tuple(steps)


def value_in(seen, recipe):
    """The number of the thing to which a recipe comes at a row by numbers, None if to nothing."""
    course = Course(seen)
    for step in recipe:
        course.take(step)
    return course.came[-1]


def named_in(step):
    """The numbers of the steps that a step names."""
    return step[2] if len(step) == 3 else ()


def _is_index(value, many):
    return isinstance(value, int) and not isinstance(value, bool) and 0 <= value < many


def _is_step(wanted, shown, at, step):
    """Whether any value is a step with so many things shown and so many steps ahead.

    `wanted` tells how many numbers stand behind "make" and a kind, and behind "open" and an opening.
    """
    if not isinstance(step, tuple) or len(step) not in (2, 3):
        return False
    if len(step) == 2:
        return is_word(step[1]) if step[0] == "word" else step[0] == "shown" and _is_index(step[1], shown)
    word, name, numbers = step
    # A list cannot be looked up, so strings are asked for first.
    if not isinstance(word, str) or word not in wanted or not isinstance(name, str) or not isinstance(numbers, tuple):
        return False
    if wanted[word].get(name) != len(numbers):
        return False
    for number in numbers:
        if not _is_index(number, at):
            return False
    return True


def _step_text(step):
    return " ".join([str(word) for word in (*step[:2], *named_in(step))])


def _step_in(words, at):
    """The step that words tell with so many steps ahead; None if they tell none."""
    if len(words) == 2:
        if words[0] == "word":
            return ("word", words[1]) if is_word(words[1]) else None
        index = number_in(words[1])
        return ("shown", index) if words[0] == "shown" and index is not None else None
    if not 3 <= len(words) <= 2 + MOST_NUMBERS or words[0] not in ("make", "open") or not is_word(words[1]):
        return None
    numbers = [number_in(word) for word in words[2:]]
    if not all([number is not None and number < at for number in numbers]):
        return None
    return (words[0], words[1], tuple(numbers))
