"""The text of a function as bodies within bodies, and the places to which ways through it lead.

A place is a pair: a level, and the number of the next statement of its body; behind the last one is the body's end.
"""

from frozenmakers.books import STATEMENTS
from frozenmakers.worths import boxes_in

# The ways out of a body, and those of them that carry a worth: what is returned, and the number of a fault.
WAYS = ("end", "break", "again", "return", "fault", "closing")
CARRYING = ("return", "fault")

# Where in its statement a body stands.
BODIES = {"if": 2, "else": 3, "while": 2, "first": 1, "second": 3, "final": 4, "pull": 5}


class Level:
    """A body in which a maker can be, and where each way out of it leads.

    So the same final is several levels: what comes behind it is otherwise where other ways have led there. Where all
    its ways out lead alike it is one, through however many others it was come to.
    """

    def __init__(self, path, body, exits, finals, box, known):
        # Where in the text of the function the body stands.
        self.path = path
        self.body = body
        # For each way out: as which way it goes on, the place, None out of the maker, and the box, or None, that takes
        # what is carried along.
        self.exits = exits
        # How many finals are being done here, one around the other.
        self.finals = finals
        # Of a final that something is carried through: the box in which it is kept meanwhile.
        self.box = box
        # All levels of this function, so that none is made twice.
        self._known = known
        self._inner = {}

    def inner(self, at, word):
        """The level of a body of the statement of that number here."""
        key = (at, word)
        if key not in self._inner:
            self._inner[key] = self._level(at, word, self._exits_of(at, word), None)
        return self._inner[key]

    def _level(self, at, word, exits, box):
        path = f"{self.path} {at} {word}"
        key = (path, box, tuple([exits.get(way) for way in WAYS]))
        if key not in self._known:
            finals = self.finals + (1 if word == "final" else 0)
            self._known[key] = Level(path, self.body[at][BODIES[word]], exits, finals, box, self._known)
        return self._known[key]

    def _exits_of(self, at, word):
        """The ways out of a body of the statement of that number here."""
        behind = {**self.exits, "end": ("end", (self, at + 1), None)}
        if word in ("first", "second"):
            return self._exits_of_try(at, word, behind)
        if word == "while":
            head = ("again", (self, at), None)
            return {**behind, "end": head, "again": head, "break": ("break", (self, at + 1), None)}
        return behind

    def _exits_of_try(self, at, word, behind):
        """The ways out of the first or the second body of a try, behind telling those out of all of it."""
        _, _, caught, _, final = self.body[at]
        exits = dict(behind)
        if len(final) > 0:
            exits = {way: self._exit_by_final(at, way, behind) for way in behind}
        if word == "first" and caught is not None:
            exits["fault"] = ("fault", (self.inner(at, "second"), 0), caught)
        return exits

    def _exit_by_final(self, at, way, behind):
        """The way to the final that is done ahead of going on that way."""
        box = None
        if way in CARRYING:
            # No box of the text has a figure in its name; and the further out a final stands, the lower the name.
            depth = self.finals + 1
            box = f"p{depth:02d}"
        final = self._level(at, "final", {**behind, "end": behind[way]}, box)
        return (way, (final, 0), box)


def beginning(function):
    """The place at which a new maker begins."""
    exits = {way: (way, None, None) for way in ("end", "return", "fault", "closing")}
    return (Level(function.name, function.body, exits, 0, None, {}), 0)


def _steps_out(level, way):
    _, place, box = level.exits[way]
    return [] if place is None else [(place, box)]


def _steps_behind(level, at, statement):
    """The steps from a statement that does what it does."""
    word = statement[0]
    behind = (level, at + 1)
    if word == "if":
        return [((level.inner(at, "if"), 0), None), ((level.inner(at, "else"), 0), None)]
    if word == "while":
        return [((level.inner(at, "while"), 0), None), (behind, None)]
    if word == "pull":
        return [(behind, statement[1]), ((level.inner(at, "pull"), 0), statement[1])]
    if word == "return":
        return _steps_out(level, "return")
    if word == "throw":
        return []
    if word in ("give", "all"):
        return [(behind, statement[1]), *_steps_out(level, "closing")]
    if word in ("set", "make"):
        return [(behind, statement[1])]
    return [(behind, None)]


def steps_of(place):
    """The places to which some way goes on from here, each with the box that is set on that step, or None."""
    level, at = place
    if at == len(level.body):
        return _steps_out(level, "end")
    statement = level.body[at]
    if statement[0] == "try":
        return [((level.inner(at, "first"), 0), None)]
    if statement[0] in ("break", "again"):
        return _steps_out(level, statement[0])
    return [*_steps_behind(level, at, statement), *_steps_out(level, "fault")]


def _expressions_of(statement):
    found = []
    for kind, part in zip(STATEMENTS[statement[0]], statement[1:]):
        if kind == "expression":
            found.append(part)
        elif kind == "things":
            found.extend(part)
    return found


def reads_of(place):
    """The boxes that are read at a place; at the end of a final that keeps a worth, the box of that."""
    level, at = place
    if at < len(level.body):
        return boxes_in(_expressions_of(level.body[at]))
    return [] if level.box is None else [level.box]
