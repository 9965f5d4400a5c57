"""What the words of a row stand for, wherever in a text it stands."""

from frozenmakers.books import is_name

SIGN_WORDS = {"+": "plus", "-": "less", "*": "times", "<": "under", "=": "same"}

MOST_FIGURES = 7

# The pieces of a row behind its first word; the last piece takes all the words that are left.
PIECES = {
    "maker": ("names",),
    "set": ("box", "expression"),
    "say": ("expression",),
    "give": ("box", "expression"),
    "if": ("expression",),
    "else": (),
    "while": ("expression",),
    "break": (),
    "again": (),
    "return": ("expression",),
    "throw": ("expression",),
    "try": (),
    "catch": ("box",),
    "finally": (),
    "make": ("box", "making"),
    "ask": ("box", "pair"),
    "toss": ("box", "pair"),
    "close": ("expression",),
    "all": ("box", "expression"),
    "end": (),
}


def number_in(word):
    """The number that a word is, None where it is none."""
    if not word.isascii() or not word.isdigit() or len(word) > MOST_FIGURES:
        return None
    return None if word[0] == "0" and len(word) > 1 else int(word)


def worth_in(word):
    """The worth that a word is: a number, "none", or of a maker what a worth is; None where it is none."""
    if word == "none":
        return "none"
    if not word.startswith("@"):
        return number_in(word)
    number = number_in(word[1:])
    return None if number is None else ("maker", number)


def word_of(worth):
    """The word that a worth is written by."""
    if worth is None:
        return "none"
    return f"@{worth[1]}" if type(worth) is tuple else str(worth)


def _atom_of(word):
    """What a word without brackets stands for: an expression, a sign as it is, or None."""
    if word in SIGN_WORDS:
        return word
    if word == "none":
        return ("none",)
    if is_name(word):
        return ("box", word)
    number = number_in(word)
    return None if number is None else ("number", number)


def _joined(held):
    """The expression that a closing bracket makes of the last four that are held, None where it makes none."""
    if len(held) < 4:
        return None
    bracket, left, sign, right = held[-4:]
    if bracket != "(" or type(left) is not tuple or type(right) is not tuple:
        return None
    if type(sign) is not str or sign not in SIGN_WORDS:
        return None
    return (SIGN_WORDS[sign], left, right)


def _expression_of(text):
    """The expression that is written so, None where there is none."""
    # What has been read and isn't yet closed by a bracket: a text of any depth is read without calls going as deep.
    held = []
    for word in text.split(" "):
        inner = word.lstrip("(")
        bare = inner.rstrip(")")
        atom = _atom_of(bare)
        if atom is None:
            return None
        held.extend(["("] * (len(word) - len(inner)))
        held.append(atom)
        for _ in range(len(inner) - len(bare)):
            joined = _joined(held)
            if joined is None:
                return None
            held[-4:] = [joined]
    if len(held) != 1 or type(held[0]) is not tuple:
        return None
    return held[0]


def _expressions_of(text):
    """The tuple of the expressions that stand there, a comma between, None where one is none."""
    found = tuple([_expression_of(part) for part in text.split(" , ")])
    if None in found:
        return None
    return found


def _names_of(text):
    names = tuple(text.split(" "))
    if not all([is_name(name) for name in names]):
        return None
    return names


def _making_of(text):
    """The name of a function and the tuple of things, None where they can't stand so."""
    name, *rest = text.split(" ", 1)
    things = ()
    if rest:
        things = _expressions_of(rest[0])
    if not is_name(name) or things is None:
        return None
    return (name, things)


def _read(kind, text):
    """What a piece of a row stands for, None where it can't stand so."""
    if kind == "expression":
        return _expression_of(text)
    if kind == "names":
        return _names_of(text)
    if kind == "making":
        return _making_of(text)
    if kind == "pair":
        found = _expressions_of(text)
        return None if found is None or len(found) != 2 else found
    return text if is_name(text) else None


def head_of(row):
    """The first word of a row and what its pieces stand for, None where its words can't stand so anywhere."""
    word = row.partition(" ")[0]
    if word not in PIECES:
        return None
    kinds = PIECES[word]
    texts = row.split(" ", len(kinds))
    if texts[0] != word or len(texts) != len(kinds) + 1:
        return None
    parts = [_read(kind, text) for kind, text in zip(kinds, texts[1:])]
    if None in parts:
        return None
    return [word, *parts]
