"""Tables made of functions."""

from frozenmakers.levels import beginning
from frozenmakers.tables import Table

# What stands for a place where a way leads out of the maker without a statement or a worth of its own.
ROWS_OUT = {"end": ("return", ("none",)), "closing": ("end",)}


def _place_out(level, way):
    """Where a way out of a body leads, or out of the maker: then None, and as what."""
    onward, place, _ = level.exits[way]
    return (None, onward) if place is None else place


def _settled(place):
    """The next place for which there is a row: some only lead on."""
    while True:
        level, at = place
        if level is None:
            return place
        if at == len(level.body):
            if level.box is not None:
                return place
            place = _place_out(level, "end")
        elif level.body[at][0] == "try":
            place = (level.inner(at, "first"), 0)
        elif level.body[at][0] in ("break", "again"):
            place = _place_out(level, level.body[at][0])
        else:
            return place


class Making:
    """The rows of a table, each written for a place, in the order in which places are met."""

    def __init__(self, first):
        self.rows = []
        self.lands = {}
        self.closes = {}
        self._places = []
        self._numbers = {}
        self.row_at(first)
        while len(self.rows) < len(self._places):
            self.write(self._places[len(self.rows)])

    def row_at(self, place):
        """The number of the row at which it goes on from a place."""
        settled = _settled(place)
        if settled not in self._numbers:
            self._numbers[settled] = len(self._places)
            self._places.append(settled)
        return self._numbers[settled]

    def write(self, place):
        """Writes the row of a place, with where it lands and closes."""
        level, at = place
        if level is None:
            row = ROWS_OUT[at]
        elif at == len(level.body):
            row = self.row_of_end(level)
        else:
            row = self.row_of_statement(level, at)
        self.rows.append(row)

    def land(self, level, way):
        """Lets faults at the row that is being written go where that way out of the level leads."""
        _, place, box = level.exits[way]
        if place is not None:
            self.lands[len(self.rows)] = (self.row_at(place), box)

    def row_of_return(self, level, way, expression):
        """The row by which a return leaves a level: it sets the box of the final that comes first, where one does."""
        _, place, box = level.exits[way]
        if place is None:
            return ("return", expression)
        return ("set", box, expression, self.row_at(place))

    def row_of_end(self, level):
        """The row of the end of a final that keeps a worth: it goes on with that."""
        kept = ("box", level.box)
        onward, _, _ = level.exits["end"]
        if onward == "return":
            # Also where the next final keeps it in the same box: at this end it is read, whatever comes of it there.
            return self.row_of_return(level, "end", kept)
        self.land(level, "end")
        return ("throw", kept)

    def row_of_statement(self, level, at):
        """The row of a statement."""
        statement = level.body[at]
        word = statement[0]
        self.land(level, "fault")
        if word == "throw":
            return statement
        if word == "return":
            return self.row_of_return(level, "return", statement[1])
        if word == "if":
            yes, no = (level.inner(at, "if"), 0), (level.inner(at, "else"), 0)
            return ("if", statement[1], self.row_at(yes), self.row_at(no))
        behind = self.row_at((level, at + 1))
        if word == "while":
            return ("if", statement[1], self.row_at((level.inner(at, "while"), 0)), behind)
        if word == "pull":
            return (*statement[:5], behind, self.row_at((level.inner(at, "pull"), 0)))
        if word in ("give", "all"):
            _, place, _ = level.exits["closing"]
            if place is not None:
                self.closes[len(self.rows)] = self.row_at(place)
        return (*statement, behind)


def made(function):
    """The table by which a machine tells what the plain run tells of the function."""
    making = Making(beginning(function))
    return Table(function.name, function.params, making.rows, lands=making.lands, closes=making.closes)
