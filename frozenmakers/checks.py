"""What is refused of what is asked of makers, be it of a plain run or of a house."""

from frozenmakers.errors import NoMaker, NoName, NoThings, NoWorth
from frozenmakers.worths import is_number, is_there, is_worth


def look_for(makers, k):
    """Tells the maker of that number."""
    if not is_there(k, makers):
        raise NoMaker(k)
    return makers[k]


def look_at_beginning(params, makers, name, things):
    """Looks at what a new maker is to be made of, params telling those of each function."""
    if type(name) is not str or name not in params:
        raise NoName(name)
    if type(things) not in (list, tuple) or not all([is_worth(thing, makers) for thing in things]):
        raise NoThings("no list of worths that are there")
    if len(things) != len(params[name]):
        raise NoThings("not as many worths as the function has params")


def look_at_worth(makers, worth):
    """Looks at what is sent."""
    if not is_worth(worth, makers):
        raise NoWorth("no worth that is there")


def look_at_number(number):
    """Looks at what is tossed."""
    if not is_number(number):
        raise NoWorth("no number that can be tossed")
