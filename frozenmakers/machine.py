"""Houses: makers that go by tables."""

from frozenmakers.by_rows import Chart, RowRun
from frozenmakers.checks import look_at_beginning, look_at_number, look_at_worth, look_for
from frozenmakers.errors import NoTable
from frozenmakers.making import made
from frozenmakers.tables import is_table
from frozenmakers.worths import in_order


def _by_names(thing):
    """What stands under texts in a dict, nothing of any other thing."""
    if type(thing) is not dict:
        return {}
    return {key: part for key, part in thing.items() if type(key) is str}


def _charts_of(book, tables):
    """The chart of each function, by the tables handed in, or by made ones where that is None."""
    if tables is None:
        return {function.name: Chart(made(function)) for function in book.functions}
    handed_in = _by_names(tables)
    charts = {}
    for function in book.functions:
        table = handed_in.get(function.name)
        if not is_table(table, book) or table.name != function.name:
            raise NoTable(function.name)
        charts[function.name] = Chart(table)
    return charts


class House:
    """Makers of the functions of a book that go by tables, asked one at a time."""

    def __init__(self, book, *, tables=None):
        self.run = RowRun(_charts_of(book, tables))
        self.params = {function.name: function.params for function in book.functions}
        # The numbers of makers that are pinned.
        self.pins = {}
        # The rows of the log.
        self.deeds = []

    def __len__(self):
        return len(self.run.makers)

    def begin(self, name, things=()):
        """The number of a new maker of the function of this name."""
        look_at_beginning(self.params, self.run.makers, name, things)
        number = self.run.make(name, things)
        self.deeds.append(("begin", name, tuple(things), number))
        return number

    def ask(self, k, worth=None):
        """What comes of asking a maker with a worth."""
        look_for(self.run.makers, k)
        look_at_worth(self.run.makers, worth)
        told = self.run.told("ask", k, worth)
        self.deeds.append(("ask", k, worth, told))
        return told

    def toss(self, k, number):
        """What comes of tossing a maker a number."""
        look_for(self.run.makers, k)
        look_at_number(number)
        told = self.run.told("toss", k, number)
        self.deeds.append(("toss", k, number, told))
        return told

    def close(self, k):
        """What comes of closing a maker."""
        look_for(self.run.makers, k)
        told = self.run.told("close", k, None)
        self.deeds.append(("close", k, told))
        return told

    def log(self):
        """The rows of all deeds that were not refused."""
        return list(self.deeds)

    def said(self):
        """All that was said, pairs of a maker's number and a worth."""
        return list(self.run.heard)

    def state(self, k):
        """Whether a maker is "new", "stands" or is "over"."""
        return look_for(self.run.makers, k).stage

    def place(self, k):
        """The row at which a maker stands, 0 of a new one, None of one that is over."""
        maker = look_for(self.run.makers, k)
        return None if maker.stage == "over" else maker.spot

    def boxes(self, k):
        """What the boxes hold that a maker keeps."""
        return dict(look_for(self.run.makers, k).worths)

    def held(self, k):
        """The numbers of the makers that a maker holds, each once."""
        maker = look_for(self.run.makers, k)
        return maker.held_in(in_order(list(maker.worths)))
