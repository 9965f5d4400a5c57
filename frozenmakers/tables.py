"""Tables of rows, by which machines go."""

from frozenmakers.books import EXPRESSIONS, MODULUS

MOST_SIGNS = 8
SIGNS = "abcdefghijklmnopqrstuvwxyz0123456789"

# The kinds of what stands behind the first word of each row; to, yes, no and over are numbers of rows.
ROWS = {
    "set": ("box", "expression", "to"),
    "say": ("expression", "to"),
    "if": ("expression", "yes", "no"),
    "make": ("box", "function", "things", "to"),
    "give": ("box", "expression", "to"),
    "pull": ("box", "way", "expression", "expression", "to", "over"),
    "close": ("expression", "to"),
    "all": ("box", "expression", "to"),
    "throw": ("expression",),
    "return": ("expression",),
    "end": (),
}
GOING_ON = ("to", "yes", "no", "over")
# The rows at which a maker can stand.
STANDING = ("give", "all")


def _rising(thing):
    """A dict of the same, its numbers rising; other keys, which no table has, stay behind them as they were."""
    if thing is None:
        return {}
    if not isinstance(thing, dict):
        return thing
    numbers = sorted([key for key in thing if type(key) is int])
    others = [key for key in thing if type(key) is not int]
    return {key: thing[key] for key in [*numbers, *others]}


class Table:
    """The rows of a function, where faults land and where closings go on; it refuses nothing, is_table looks at it."""

    def __init__(self, name, params, rows, *, lands=None, closes=None):
        self.name = name
        self.params = list(params) if isinstance(params, list) else params
        self.rows = tuple(rows) if isinstance(rows, (list, tuple)) else rows
        self.lands = _rising(lands)
        self.closes = _rising(closes)

    def __eq__(self, other):
        return (
            isinstance(other, Table) and self.name == other.name and self.params == other.params
            and self.rows == other.rows and self.lands == other.lands and self.closes == other.closes
        )


def is_box(thing):
    """Whether a thing of any kind is a box of a table."""
    if type(thing) is not str or not 1 <= len(thing) <= MOST_SIGNS:
        return False
    return all([sign in SIGNS for sign in thing])


def is_row_number(thing, many):
    """Whether a thing of any kind is the number of one of so many rows."""
    return type(thing) is int and 0 <= thing < many


def _is_atom(kind, thing):
    if kind == "number":
        return type(thing) is int and 0 <= thing < MODULUS
    return is_box(thing)


def _fits(thing, kinds):
    """Whether a thing has a part of each kind behind its first word, kinds being None where that word isn't known."""
    return kinds is not None and len(thing) == len(kinds) + 1


def _first_word(thing):
    """The text at the beginning of a tuple, None of any other thing."""
    if type(thing) is not tuple or len(thing) == 0 or type(thing[0]) is not str:
        return None
    return thing[0]


def _is_expression(thing):
    # A list of what is still to be looked at: what is handed in may stand deeper than calls do.
    waiting = [("expression", thing)]
    while waiting:
        kind, part = waiting.pop()
        if kind == "expression":
            kinds = EXPRESSIONS.get(_first_word(part))
            if not _fits(part, kinds):
                return False
            waiting.extend(list(zip(kinds, part[1:])))
        elif not _is_atom(kind, part):
            return False
    return True


def _is_part(kind, part, many):
    """Whether a thing of any kind is a part of that kind, of a table with so many rows."""
    if kind == "box":
        return is_box(part)
    if kind in GOING_ON:
        return is_row_number(part, many)
    if kind == "way":
        return type(part) is str and part in ("ask", "toss")
    if kind == "function":
        return type(part) is str
    if kind == "things":
        return type(part) is tuple and all([_is_expression(thing) for thing in part])
    return _is_expression(part)


def _is_row(row, many, counts):
    """Whether a thing of any kind is a row, counts telling how many params each function takes."""
    kinds = ROWS.get(_first_word(row))
    if not _fits(row, kinds) or not all([_is_part(kind, part, many) for kind, part in zip(kinds, row[1:])]):
        return False
    return row[0] != "make" or counts.get(row[2]) == len(row[3])


def _are_lands(thing, many):
    if type(thing) is not dict:
        return False
    for key in thing:
        pair = thing[key]
        if not is_row_number(key, many) or type(pair) is not tuple or len(pair) != 2:
            return False
        if not is_row_number(pair[0], many) or not is_box(pair[1]):
            return False
    return True


def _are_closes(thing, rows):
    if type(thing) is not dict:
        return False
    for key in thing:
        if not is_row_number(key, len(rows)) or rows[key][0] not in STANDING:
            return False
        if not is_row_number(thing[key], len(rows)):
            return False
    return True


def _has_head(table, book):
    """Whether a table has the name and the params of a function of the book."""
    if type(table.name) is not str or type(table.params) is not tuple:
        return False
    if not all([type(param) is str for param in table.params]):
        return False
    return (table.name, table.params) in [(function.name, function.params) for function in book.functions]


def is_table(thing, book):
    """Whether a thing of any kind is a table of a function of the book."""
    if not isinstance(thing, Table) or not _has_head(thing, book):
        return False
    rows = thing.rows
    if type(rows) is not tuple or len(rows) == 0:
        return False
    counts = {function.name: len(function.params) for function in book.functions}
    if not all([_is_row(row, len(rows), counts) for row in rows]):
        return False
    return _are_lands(thing.lands, len(rows)) and _are_closes(thing.closes, rows)
