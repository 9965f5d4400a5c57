"""Worths, and what expressions come to."""

from frozenmakers.books import DEEP, KIND, MODULUS


class Fault(Exception):
    """A fault that is raised in a maker; askers are told of it, they never meet this error."""

    def __init__(self, number):
        Exception.__init__(self, f"fault {number}")
        self.number = number


def is_number(thing):
    """Whether a thing of any kind is a number that a worth can be."""
    return type(thing) is int and 0 <= thing <= DEEP


def is_there(number, makers):
    """Whether a thing of any kind is the number of one of the makers, a dict by numbers."""
    return type(number) is int and number in makers


def is_worth(thing, makers):
    """Whether a thing of any kind is a worth that is there, among these makers."""
    if type(thing) is not tuple:
        return thing is None or is_number(thing)
    if len(thing) != 2 or type(thing[0]) is not str:
        return False
    return thing[0] == "maker" and is_there(thing[1], makers)


def is_so(worth):
    """Whether a choice by this worth is made."""
    return worth is not None and worth != 0


def number_of(worth):
    """The worth, which must be a number."""
    if type(worth) is not int:
        raise Fault(KIND)
    return worth


def maker_of(worth):
    """The number of the maker that the worth must be."""
    if type(worth) is not tuple:
        raise Fault(KIND)
    return worth[1]


def _joined(sign, one, other):
    """What two numbers come to."""
    if sign == "under":
        return 1 if one < other else 0
    if sign == "plus":
        return (one + other) % MODULUS
    if sign == "less":
        return (one - other) % MODULUS
    return (one * other) % MODULUS


def worked_out(expression, boxes):
    """The worth of an expression, boxes being a dict; one that isn't in it holds None."""
    word = expression[0]
    if word == "none":
        return None
    if word == "number":
        return expression[1]
    if word == "box":
        return boxes.get(expression[1])
    one = worked_out(expression[1], boxes)
    other = worked_out(expression[2], boxes)
    if word == "same":
        return 1 if one == other else 0
    return _joined(word, number_of(one), number_of(other))


def boxes_in(expressions):
    """The boxes that a list of expressions reads, each once."""
    found = {}
    waiting = list(expressions)
    while waiting:
        expression = waiting.pop()
        if expression[0] == "box":
            found[expression[1]] = True
        elif expression[0] not in ("number", "none"):
            waiting.extend(expression[1:])
    return list(found)


def in_order(boxes):
    """The rising boxes in the order in which they are looked through: first those without figures."""
    return [*[box for box in boxes if box.isalpha()], *[box for box in boxes if not box.isalpha()]]
