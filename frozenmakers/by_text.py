"""Makers that go by the text."""

from frozenmakers.running import Maker, Run


class TextMaker(Maker):
    """A maker at a place of the text."""

    # Its boxes are those of the text, and with them those in which worths are kept through finals.

    def twin(self):
        """One that is as this one is."""
        return TextMaker(self.number, self.name, dict(self.worths), self.spot, self.stage, self.passing)

    def statement(self):
        """The statement at which it is, None at the end of a body."""
        level, at = self.spot
        return level.body[at] if at < len(level.body) else None

    def go_behind(self):
        """Goes on behind its statement."""
        level, at = self.spot
        self.spot = (level, at + 1)

    def go_into(self, word):
        """Goes on to the beginning of a body of its statement."""
        level, at = self.spot
        self.spot = (level.inner(at, word), 0)

    def leave(self, way, worth=None):
        """Leaves its body; tells what comes of it where it leaves the maker, else None."""
        level, _ = self.spot
        if way == "end" and level.box is not None:
            worth = self.worths[level.box]
        onward, place, box = level.exits[way]
        if place is None:
            self.finish()
            return ("raised", worth) if onward == "fault" else ("ended", worth)
        self.spot = place
        if box is not None:
            self.worths[box] = worth
        return None


class TextRun(Run):
    """One asking: it goes on with makers of its own, so that nothing is changed where it goes too far."""

    def __init__(self, courses, makers, most):
        twins = {number: makers[number].twin() for number in makers}
        Run.__init__(self, twins, len(makers), most)
        self.courses = courses

    def make(self, name, things):
        """Makes a new maker; tells its number."""
        course = self.courses[name]
        self.take_in(TextMaker(self.last + 1, name, dict(zip(course.params, things)), course.first))
        return self.last
