"""A console beside two rows."""

from sealedalike.books import Book, standard_book
from sealedalike.comparing import is_alike
from sealedalike.desks import Sides
from sealedalike.errors import BadText, BadThing, InvalidCommand
from sealedalike.having import basis, is_had, judge, least_size
from sealedalike.recipes import recipe_text
from sealedalike.things import texts_of


class Console:
    """A book, and two rows at which things are shown."""

    def __init__(self):
        self.sides = Sides(standard_book())

    def run(self, command):
        """The answer to a command; InvalidCommand for any other value."""
        # No command is told over several lines, but a text of a book may be.
        if not isinstance(command, str) or "\n" in command:
            raise InvalidCommand()
        words = command.split(" ")
        if words[0] == "book":
            return self._begin_anew(" ".join(words[1:]))
        if command == "undo":
            self.sides.undo()
            return self._likeness()
        if command == "tell":
            return self._paper()
        if len(words) == 2 and words[0] == "basis":
            return _basis_answer(self._row(words[1]))
        if len(words) != 3:
            raise InvalidCommand()
        if words[0] == "show":
            self.sides.show(self._thing(words[1]), self._thing(words[2]))
            return self._likeness()
        return _thing_answer(words[0], self._row(words[1]), self._thing(words[2]))

    def _begin_anew(self, text):
        try:
            self.sides = Sides(Book.read(text.replace(";", "\n")))
        except BadText:
            raise InvalidCommand() from None
        return "ok"

    def _row(self, side):
        if side == "left":
            return self.sides.left
        if side == "right":
            return self.sides.right
        raise InvalidCommand()

    def _thing(self, text):
        try:
            return self.sides.book.read_thing(text)
        except BadThing:
            raise InvalidCommand() from None

    def _likeness(self):
        return "alike" if is_alike(self.sides.left, self.sides.right) else "unlike"

    def _paper(self):
        paper = self.sides.compared()
        if paper[0] == "alike":
            return "alike"
        recipes = "|".join([recipe_text(recipe) for recipe in paper[1:]])
        return f"{paper[0]} {recipes}"


def _basis_answer(row):
    texts = texts_of(basis(row))
    return " ".join(texts) if texts else "none"


def _thing_answer(word, row, thing):
    """The answer to a command that asks of a thing."""
    had = is_had(row, thing)
    if word == "have":
        return "yes" if had else "no"
    if word == "recipe":
        return recipe_text(judge(row, thing)[1]) if had else "none"
    if word == "size":
        return str(least_size(row, thing)) if had else "none"
    raise InvalidCommand()
