"""The rows of tables as ways go through them."""

from frozenmakers.tables import GOING_ON, ROWS, STANDING
from frozenmakers.worths import boxes_in


def target_of(row, word):
    """The number of the row to which a row goes on by that word."""
    return row[ROWS[row[0]].index(word) + 1]


def steps_from(table, number):
    """The steps from a row, in the order of their words: each a word, the row it leads to, the box it sets or None."""
    row = table.rows[number]
    kinds = ROWS[row[0]]
    box = row[1] if "box" in kinds else None
    found = [(kind, part, box) for kind, part in zip(kinds, row[1:]) if kind in GOING_ON]
    if number in table.lands:
        target, landing = table.lands[number]
        found.append(("land", target, landing))
    if number in table.closes and row[0] in STANDING:
        found.append(("close", table.closes[number], None))
    return found


def reads_of_row(row):
    """The boxes in the expressions of a row, each once."""
    found = []
    for kind, part in zip(ROWS[row[0]], row[1:]):
        if kind == "expression":
            found.append(part)
        elif kind == "things":
            found.extend(part)
    return boxes_in(found)


def renumbered(row, numbers):
    """The row with other numbers of rows, numbers telling which."""
    parts = [numbers[part] if kind in GOING_ON else part for kind, part in zip(ROWS[row[0]], row[1:])]
    return (row[0], *parts)


def bare(row):
    """The row without the numbers of rows."""
    parts = [part for kind, part in zip(ROWS[row[0]], row[1:]) if kind not in GOING_ON]
    return (row[0], *parts)
