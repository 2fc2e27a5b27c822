"""The errors that the program raises."""


class SealError(Exception):
    """The base class of all errors of the program."""


class BadBook(SealError):
    """The kinds or the openings are none of a book."""

    def __init__(self, part):
        self.part = part


class BadThing(SealError):
    """A value is no thing of the book, or no text of one."""

    def __init__(self, thing):
        self.thing = thing


class BadRow(SealError):
    """A part of a row has the wrong form."""

    def __init__(self, part):
        self.part = part


class BadText(SealError):
    """A value is no text of what is read; 0 stands for no string, else the first wrong line."""

    def __init__(self, line):
        self.line = line


class NotHad(SealError):
    """A thing cannot be had, which the paper shows."""

    def __init__(self, paper):
        self.paper = paper


class Mismatch(SealError):
    """Two rows have unlike books, or unlike numbers of things."""

    def __init__(self, part):
        self.part = part


class NothingToUndo(SealError):
    """Nothing is left to take back."""


class NothingToRedo(SealError):
    """Nothing that was taken back is left to show again."""


class InvalidCommand(SealError):
    """A console does not know the command."""
