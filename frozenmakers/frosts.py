"""Frozen texts read: what they tell of each maker."""

from frozenmakers.books import is_name
from frozenmakers.errors import NoText
from frozenmakers.tables import is_box
from frozenmakers.words import number_in, worth_in

STAGES = ("new", "over")


class Frost:
    """A maker as a frozen text tells of it."""

    def __init__(self, name, stage, spot):
        self.name = name
        self.stage = stage
        # The row at which it stands, None where it is new or over.
        self.spot = spot
        # Of each thing or box its worth: a number, "none", or of a maker a pair with its number in the text; and of
        # boxes their names.
        self.told_worths = []
        self.told_boxes = []
        # The worth that is told of the maker of its all, None where none is.
        self.inner_worth = None


class FrostReader:
    """Reads the rows of a frozen text, one by one; each tells whether that row can stand there."""

    def __init__(self):
        # How many makers there are to be, None ahead of the first row.
        self.many = None
        self.frosts = []

    def read(self, row):
        """Reads the next row."""
        words = row.split(" ")
        if self.many is None:
            return self._read_many(words)
        if words[0] == "maker":
            return self._read_maker(words)
        worth = worth_in(words[-1])
        if len(self.frosts) == 0 or worth is None:
            return False
        if words[0] == "box":
            return self._read_box(words, worth)
        if len(words) != 2:
            return False
        if words[0] == "thing":
            return self._read_thing(worth)
        return words[0] == "inner" and self._read_inner(worth)

    def _read_many(self, words):
        if len(words) != 2 or words[0] != "frozen":
            return False
        self.many = number_in(words[1])
        return self.many is not None and self.many > 0

    def _read_maker(self, words):
        if len(self.frosts) == self.many or len(words) != 3 or not is_name(words[1]):
            return False
        spot = number_in(words[2])
        if spot is None and words[2] not in STAGES:
            return False
        self.frosts.append(Frost(words[1], words[2] if spot is None else "stands", spot))
        return True

    def _read_thing(self, worth):
        frost = self.frosts[-1]
        frost.told_worths.append(worth)
        return frost.stage == "new"

    def _read_box(self, words, worth):
        frost = self.frosts[-1]
        if len(words) != 3 or not is_box(words[1]):
            return False
        frost.told_boxes.append(words[1])
        frost.told_worths.append(worth)
        return frost.stage == "stands" and frost.inner_worth is None

    def _read_inner(self, worth):
        frost = self.frosts[-1]
        is_first = frost.inner_worth is None
        frost.inner_worth = worth
        return frost.stage == "stands" and is_first


def frosts_of(text):
    """What a frozen text tells of its makers, of anything: NoText where it is none."""
    if type(text) is not str:
        raise NoText(0)
    rows = text.split("\n")
    is_ended = rows[-1] == ""
    if is_ended:
        rows.pop()
    reader = FrostReader()
    for at, row in enumerate(rows):
        if not reader.read(row):
            raise NoText(at)
    if not is_ended or len(reader.frosts) != reader.many:
        raise NoText(len(rows))
    return reader.frosts
