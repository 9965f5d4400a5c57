"""Functions of makers, and books of them."""

from frozenmakers.errors import NoBook

MODULUS = 1000003
# The house's own faults lie where no expression gets to by itself.
KIND = 1000003
BUSY = 1000004
STUBBORN = 1000005
DEEP = 1000006

OWN = (
    "maker", "set", "say", "give", "if", "else", "while", "break", "again", "return", "throw",
    "try", "catch", "finally", "make", "ask", "toss", "close", "all", "end", "none",
)

MOST_LETTERS = 8
MOST_FUNCTIONS = 6

# The kinds of what stands behind the first word of each, in the order in which its text has them.
EXPRESSIONS = {
    "number": ("number",),
    "none": (),
    "box": ("box",),
    "plus": ("expression", "expression"),
    "less": ("expression", "expression"),
    "times": ("expression", "expression"),
    "under": ("expression", "expression"),
    "same": ("expression", "expression"),
}
STATEMENTS = {
    "set": ("box", "expression"),
    "say": ("expression",),
    "give": ("box", "expression"),
    "if": ("expression", "body", "body"),
    "while": ("expression", "body"),
    "break": (),
    "again": (),
    "return": ("expression",),
    "throw": ("expression",),
    "try": ("body", "caught", "body", "body"),
    "make": ("box", "function", "things"),
    "pull": ("box", "way", "expression", "expression", "body"),
    "close": ("expression",),
    "all": ("box", "expression"),
}


def is_name(text):
    """Whether a thing of any kind is a name."""
    if type(text) is not str or not 1 <= len(text) <= MOST_LETTERS:
        return False
    return text.isascii() and text.isalpha() and text.islower() and text not in OWN


def _kinds(kind, part):
    """The kinds of what stands in a statement or an expression, None where part has no such first word."""
    if type(part) is not tuple or len(part) == 0 or type(part[0]) is not str:
        return None
    if kind == "statement":
        return STATEMENTS.get(part[0])
    return EXPRESSIONS.get(part[0])


def _is_part(kind, part):
    """Whether a thing of any kind is a part of that kind, what stands in it not looked at."""
    if kind in ("statement", "expression"):
        kinds = _kinds(kind, part)
        return kinds is not None and len(part) == len(kinds) + 1
    if kind in ("body", "things"):
        return type(part) is tuple
    if kind == "number":
        return type(part) is int and 0 <= part < MODULUS
    if kind == "way":
        return type(part) is str and part in ("ask", "toss")
    if kind == "caught" and part is None:
        return True
    return is_name(part)


def _inside(kind, part):
    """The pairs of a kind and a part that stand in such a part, in the order of the text."""
    if kind == "body":
        return [("statement", statement) for statement in part]
    if kind == "things":
        return [("expression", thing) for thing in part]
    if kind in ("statement", "expression"):
        return list(zip(_kinds(kind, part), part[1:]))
    return []


def _is_empty(body):
    return type(body) is tuple and len(body) == 0


def _may_stand(statement, counts, looped):
    """Whether a statement fits where it stands: what no part of it tells by itself."""
    word = statement[0]
    if word in ("break", "again"):
        return looped
    if word == "try":
        _, _, caught, second, final = statement
        return caught is not None or (_is_empty(second) and not _is_empty(final))
    if word == "make":
        _, _, name, things = statement
        return is_name(name) and type(things) is tuple and counts.get(name) == len(things)
    return True


def _is_code(body, counts):
    """Whether a thing of any kind is the body of a function, counts telling how many params each name takes."""
    # A list of what is still to be looked at: what is handed in may stand deeper than calls do.
    waiting = [("body", body, False)]
    while waiting:
        kind, part, looped = waiting.pop()
        if not _is_part(kind, part):
            return False
        if kind == "statement":
            if not _may_stand(part, counts, looped):
                return False
            looped = looped or part[0] == "while"
        waiting.extend([(inner, thing, looped) for inner, thing in _inside(kind, part)])
    return True


def _has_head(thing):
    """Whether a thing of any kind is a Function with a name and params, be its body as it may."""
    if not isinstance(thing, Function) or not is_name(thing.name) or type(thing.params) is not tuple:
        return False
    return all([is_name(param) for param in thing.params]) and len(set(thing.params)) == len(thing.params)


def _param_counts(functions):
    """How many params the first function of each name has."""
    counts = {}
    for thing in functions:
        if _has_head(thing) and thing.name not in counts:
            counts[thing.name] = len(thing.params)
    return counts


def _first_wrong(functions):
    """The number of the first that is no function of a book, None where all are."""
    if type(functions) not in (list, tuple) or len(functions) == 0:
        return 0
    counts = _param_counts(functions)
    ahead = {}
    for at, thing in enumerate(functions):
        if at == MOST_FUNCTIONS or not _has_head(thing) or thing.name in ahead:
            return at
        if not _is_code(thing.body, counts):
            return at
        ahead[thing.name] = True
    return None


class Function:
    """A function of which makers are made; it refuses nothing, a Book does."""

    def __init__(self, name, params, body):
        self.name = name
        self.params = params
        self.body = body

    def __eq__(self, other):
        return (
            isinstance(other, Function) and self.name == other.name
            and self.params == other.params and self.body == other.body
        )


class Book:
    """From 1 to 6 functions of unlike names, each as the document tells; else NoBook."""

    def __init__(self, functions):
        at = _first_wrong(functions)
        if at is not None:
            raise NoBook(at)
        # The book has functions of its own, for those handed in may be given other fields later.
        self.functions = tuple([Function(each.name, each.params, each.body) for each in functions])

    def __eq__(self, other):
        return isinstance(other, Book) and self.functions == other.functions


def boxes_of(function):
    """The params of a function, then its other boxes as they first stand in its text."""
    found = {}
    for param in function.params:
        found[param] = True
    waiting = [("body", function.body)]
    while waiting:
        kind, part = waiting.pop()
        if kind in ("box", "caught") and part is not None:
            found[part] = True
        # The last of the list is looked at next, so what stands first is laid there last.
        waiting.extend(_inside(kind, part)[::-1])
    return tuple(found)
