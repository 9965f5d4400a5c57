"""Makers that go by the rows of tables."""

from frozenmakers.alive import alive, alive_behind
from frozenmakers.running import Maker, Run
from frozenmakers.steps import target_of
from frozenmakers.tables import Table

# The words of the steps from a row to what the text has as bodies of a statement.
INTO = {"if": "yes", "else": "no", "pull": "over"}


class Chart:
    """A table of its own, and what is alive at its rows."""

    def __init__(self, table):
        self.table = Table(table.name, table.params, table.rows, lands=table.lands, closes=table.closes)
        self._alive_boxes = alive(self.table)

    def alive_when_new(self):
        """The boxes that a new maker keeps, rising."""
        return self._alive_boxes[0]

    def boxes_kept(self, number):
        """The boxes that a maker which stands at this row keeps, rising."""
        return alive_behind(self.table, number, self._alive_boxes)


class RowMaker(Maker):
    """A maker at a row; where it is new or stands it holds just the boxes that are alive there, rising."""

    def __init__(self, number, chart, worths, spot, stage="new", passing=None):
        Maker.__init__(self, number, chart.table.name, worths, spot, stage, passing)
        self.chart = chart

    def keep(self, boxes):
        """Forgets all boxes but these."""
        self.worths = {box: self.worths.get(box) for box in boxes}

    def statement(self):
        """The row at which it is."""
        return self.chart.table.rows[self.spot]

    def go_behind(self):
        """Goes on behind what its row does."""
        self.spot = target_of(self.statement(), "to")

    def go_into(self, word):
        """Goes on where the text would go into a body."""
        self.spot = target_of(self.statement(), INTO[word])

    def leave(self, way, worth=None):
        """Leaves its row by a way that leads out of the maker, but where a fault lands or a closing goes on."""
        table = self.chart.table
        if way == "fault" and self.spot in table.lands:
            self.spot, box = table.lands[self.spot]
            self.worths[box] = worth
            return None
        if way == "closing" and self.spot in table.closes:
            self.spot = table.closes[self.spot]
            return None
        self.finish()
        return ("raised", worth) if way == "fault" else ("ended", worth)

    def stand(self, worth, passing=None):
        """Gives a worth, and stands at its row."""
        self.keep(self.chart.boxes_kept(self.spot))
        return super().stand(worth, passing)


class RowRun(Run):
    """Makers by the tables of a house."""

    def __init__(self, charts):
        Run.__init__(self, {}, 0)
        self.charts = charts

    def make(self, name, things):
        """Makes a new maker; tells its number."""
        chart = self.charts[name]
        maker = RowMaker(self.last + 1, chart, dict(zip(chart.table.params, things)), 0)
        maker.keep(chart.alive_when_new())
        self.take_in(maker)
        return self.last
