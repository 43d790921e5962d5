"""The errors that the program raises, one class for each kind of failure."""


class ForgetError(ValueError):
    """Any failure that the document names."""


class BadArchive(ForgetError):
    """Not an archive, or not the sizes of one."""


class BadRoom(ForgetError):
    """Not a room."""


class BadDelay(ForgetError):
    """Not a delay."""


class BadTicks(ForgetError):
    """Not a number of ticks."""


class BadBuild(ForgetError):
    """Not a build of some people of the archive within the room."""


class BadPeople(ForgetError):
    """Not people of the build who can be forgotten."""


class BadPosition(ForgetError):
    """Not a position for the archive, the room and the delay."""


class BadWish(ForgetError):
    """Not a wish that is possible at the position."""


class TooLarge(ForgetError):
    """More than the program works out."""


class BadBound(ForgetError):
    """Not a bound."""


class BadSplit(ForgetError):
    """Not a split of the archive."""


class BadKeeper(ForgetError):
    """Not one of the words for a keeper."""


class BadAnswer(ForgetError):
    """No answer leads to this position."""


class NothingDone(ForgetError):
    """There is nothing to undo."""


class BadLog(ForgetError):
    """Not a log; index tells the first wrong item, or is None if the whole is of a wrong form."""

    def __init__(self, index):
        self.index = index


class BadText(ForgetError):
    """A text that cannot be read; row tells the first wrong line."""

    def __init__(self, row):
        self.row = row
