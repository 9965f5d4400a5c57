"""A desk: rows are answered by rows."""

from frozenmakers.books import is_name
from frozenmakers.errors import NoBook, NoText, StillError
from frozenmakers.frozen import freeze, thaw
from frozenmakers.logs import judged
from frozenmakers.machine import House
from frozenmakers.texts import book_of
from frozenmakers.words import number_in, word_of, worth_in

# Between what were rows of a frozen text.
BETWEEN = " / "

# The words behind the first one of each form; begin has worths behind, and thaw a text of any words.
FORMS = {
    "begin": ("name",),
    "ask": ("number", "worth"),
    "toss": ("number", "number"),
    "close": ("number",),
    "said": (),
    "state": ("number",),
    "alive": ("number",),
    "freeze": ("number",),
    "check": (),
}


def _part_of(kind, word):
    """What a word of that kind stands for, "none" for itself; None where it is none of that kind."""
    if kind == "name":
        return word if is_name(word) else None
    return number_in(word) if kind == "number" else worth_in(word)


def _parts_of(row):
    """The first word of a row and what the others stand for, None where the row has none of the forms."""
    word, *rest = row.split(" ")
    if word == "thaw" and row != "thaw":
        return [word, row.partition(" ")[2]]
    if word not in FORMS:
        return None
    kinds = list(FORMS[word])
    if word == "begin":
        kinds.extend(["worth"] * (len(rest) - 1))
    if len(kinds) != len(rest):
        return None
    parts = [_part_of(kind, text) for kind, text in zip(kinds, rest)]
    return None if None in parts else [word, *parts]


def _worth_of(part):
    return None if part == "none" else part


def _told_row(told):
    return " ".join([told[0], *[word_of(worth) for worth in told[1:]]])


def _listed(texts, between):
    """The texts with that between, a dash where there are none."""
    return between.join(texts) if len(texts) > 0 else "-"


# What is answered of a row of each form, of its parts behind the first.
def _begin(house, book, parts):
    return str(house.begin(parts[0], [_worth_of(part) for part in parts[1:]]))


def _ask(house, book, parts):
    return _told_row(house.ask(parts[0], _worth_of(parts[1])))


def _toss(house, book, parts):
    return _told_row(house.toss(parts[0], parts[1]))


def _close(house, book, parts):
    return _told_row(house.close(parts[0]))


def _said(house, book, parts):
    return _listed([f"{k} {word_of(worth)}" for k, worth in house.said()], ", ")


def _state(house, book, parts):
    return house.state(parts[0])


def _alive(house, book, parts):
    return _listed([name for name in house.boxes(parts[0]) if name.isalpha()], " ")


def _freeze(house, book, parts):
    return BETWEEN.join(freeze(house, parts[0]).split("\n")[:-1])


def _thaw(house, book, parts):
    text = parts[0].replace(BETWEEN, "\n") + "\n"
    return " ".join([str(number) for number in thaw(house, text)])


def _check(house, book, parts):
    at = judged(house.log(), book)
    return "ok" if at is None else str(at)


ANSWERS = {
    "begin": _begin, "ask": _ask, "toss": _toss, "close": _close, "said": _said, "state": _state, "alive": _alive,
    "freeze": _freeze, "thaw": _thaw, "check": _check,
}


class Desk:
    """Answers row by row, of a house of a book that was read so."""

    def __init__(self):
        self._book = None
        self._house = None
        # The rows of a text that is being read, None where none is.
        self._rows = None

    def _read(self, row):
        """Answers a row while a text is being read."""
        if row != "over":
            self._rows.append(row + "\n")
            return "row"
        text = "".join(self._rows)
        self._rows = None
        try:
            book = book_of(text)
        except NoText as unread:
            return f"no text {unread.row}"
        except NoBook as unmade:
            return f"no book {unmade.at}"
        self._book = book
        self._house = House(book)
        return "ok"

    def answer(self, row):
        """The row by which a row is answered."""
        if self._rows is not None:
            return self._read(row)
        if row == "book":
            self._rows = []
            return "ok"
        parts = _parts_of(row)
        if parts is None:
            return "no row"
        if self._house is None:
            return "no house"
        action = ANSWERS[parts[0]]
        try:
            return action(self._house, self._book, parts[1:])
        except StillError as refusal:
            return f"refused {type(refusal).__name__}"
