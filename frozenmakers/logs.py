"""Logs of houses: gone through anew, and judged by the plain run alone."""

from frozenmakers.errors import NoLog, StillError
from frozenmakers.frozen import freeze, pin, thaw, unpin
from frozenmakers.machine import House
from frozenmakers.plain import Plain

# How many parts the row of each deed has.
PARTS = {"begin": 4, "ask": 4, "toss": 4, "close": 3, "pin": 2, "unpin": 2, "freeze": 3, "thaw": 3}
PINS = ("pin", "unpin")


def _is_row(row):
    """Whether a thing of any kind may be a row, be what it tells as it may."""
    if type(row) is not tuple or len(row) == 0 or type(row[0]) is not str:
        return False
    if PARTS.get(row[0]) != len(row):
        return False
    return row[0] != "begin" or type(row[2]) is tuple


def _is_told_so(told, thing):
    """Whether a thing of any kind is what is told."""
    if type(told) is type(thing):
        if type(told) is tuple:
            return len(told) == len(thing) and all([_is_told_so(one, other) for one, other in zip(told, thing)])
        return told == thing
    return False


def _asked(run, row):
    """What is told where the deed of a row is done in a plain run or in a house."""
    word = row[0]
    if word == "begin":
        return run.begin(row[1], row[2])
    if word == "ask":
        return run.ask(row[1], row[2])
    if word == "toss":
        return run.toss(row[1], row[2])
    return run.close(row[1])


def _done(house, row):
    """What is told where the deed of a row is done in a house."""
    word = row[0]
    if word == "pin":
        return pin(house, row[1])
    if word == "unpin":
        return unpin(house, row[1])
    if word == "freeze":
        return freeze(house, row[1])
    if word == "thaw":
        return tuple(thaw(house, row[1]))
    return _asked(house, row)


def _leads_on(house, row):
    """Whether a thing of any kind is a row whose deed can be done in the house and is told as there."""
    if not _is_row(row):
        return False
    try:
        told = _done(house, row)
    except StillError:
        return False
    # Of pins nothing is told, nor does a row tell anything.
    return row[0] in PINS or _is_told_so(told, row[-1])


def again(log, book, *, tables=None):
    """A new house in which all is done that a log tells, of anything."""
    house = House(book, tables=tables)
    if type(log) not in (list, tuple):
        raise NoLog(0)
    for at, row in enumerate(log):
        if not _leads_on(house, row):
            raise NoLog(at)
    return house


class Judge:
    """Goes through a log by the plain run, which knows neither of tables nor of frozen texts."""

    def __init__(self, book):
        self._plain = Plain(book)
        self._pinned = {}

    def finds_so(self, row):
        """Whether a thing of any kind is a row that is so next."""
        if not _is_row(row) or row[0] in ("freeze", "thaw"):
            return False
        try:
            if row[0] in PINS:
                return self._finds_pinned_so(row)
            told = _asked(self._plain, row)
        except StillError:
            return False
        return _is_told_so(told, row[-1])

    def _finds_pinned_so(self, row):
        word, k = row
        # Tells nothing that is needed here, but refuses what is no maker.
        self._plain.state(k)
        was_pinned = self._pinned.get(k, False)
        self._pinned[k] = word == "pin"
        return was_pinned != self._pinned[k]


def judged(log, book):
    """None where all that a log tells is so by the plain run, else the first row that isn't, of anything."""
    if type(log) not in (list, tuple):
        return 0
    judge = Judge(book)
    for at, row in enumerate(log):
        if not judge.finds_so(row):
            return at
    return None
