"""The refusals of the package, all right under StillError.

What was handed in may be a thing of any kind, and some things can't be shown:
so a message shows no field but those that the package counts itself.
"""


class StillError(ValueError):
    """What all refusals are."""


class NoBook(StillError):
    """No book: at is the number of the first function that can't stand there."""

    def __init__(self, at):
        StillError.__init__(self, f"function {at} can't stand in the book")
        self.at = at


class NoText(StillError):
    """No text: row is the number of the first row that can't stand there."""

    def __init__(self, row):
        StillError.__init__(self, f"row {row} can't stand in the text")
        self.row = row


class NoName(StillError):
    """No function has this name."""

    def __init__(self, name):
        StillError.__init__(self, "no function has this name")
        self.name = name


class NoThings(StillError):
    """No list of as many worths as the function has params."""


class NoWorth(StillError):
    """No worth that is there."""


class NoMaker(StillError):
    """No maker has this number."""

    def __init__(self, number):
        StillError.__init__(self, "no maker has this number")
        self.number = number


class TooLong(StillError):
    """More than most statements were begun."""

    def __init__(self, most):
        StillError.__init__(self, f"more than {most} statements are begun")
        self.most = most


class NoTable(StillError):
    """The function of this name has no table."""

    def __init__(self, name):
        StillError.__init__(self, "no table for the function of this name")
        self.name = name


class NoRow(StillError):
    """The table has no row of this number."""

    def __init__(self, number):
        StillError.__init__(self, "the table has no row of this number")
        self.number = number


class NoWay(StillError):
    """No way leads there."""


class Pinned(StillError):
    """The maker of this number is pinned."""

    def __init__(self, number):
        StillError.__init__(self, "the maker of this number is pinned")
        self.number = number


class Shared(StillError):
    """The maker of this number is held by one that stays."""

    def __init__(self, number):
        StillError.__init__(self, "the maker of this number is held by one that stays")
        self.number = number


class NoThaw(StillError):
    """Nothing to thaw: at is the number of the first maker that can't be thawed."""

    def __init__(self, at):
        StillError.__init__(self, f"maker {at} of the text can't be thawed")
        self.at = at


class NoLog(StillError):
    """No log: at is the number of the first row that isn't so."""

    def __init__(self, at):
        StillError.__init__(self, f"row {at} of the log isn't so")
        self.at = at


class NoHouse(StillError):
    """No house of this number is there."""

    def __init__(self, number):
        StillError.__init__(self, "no house of this number is there")
        self.number = number


class NoPost(StillError):
    """Nothing is laid at the post for this house."""

    def __init__(self, house):
        StillError.__init__(self, "nothing is laid for this house")
        self.house = house


class NoFall(StillError):
    """No house can fall so."""
