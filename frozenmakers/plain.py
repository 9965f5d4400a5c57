"""Plain runs: makers that go by the text."""

from frozenmakers.by_text import TextRun
from frozenmakers.checks import look_at_beginning, look_at_number, look_at_worth, look_for
from frozenmakers.courses import Course
from frozenmakers.worths import in_order

MOST = 2000


class Plain:
    """Makers of the functions of a book, asked one at a time."""

    def __init__(self, book, *, most=MOST):
        self._courses = {function.name: Course(function) for function in book.functions}
        self._params = {function.name: function.params for function in book.functions}
        self._most = most
        self._makers = {}
        self._said = []

    def __len__(self):
        return len(self._makers)

    def _take(self, run):
        self._makers = run.makers
        self._said.extend(run.heard)

    def _told(self, way, k, worth):
        run = TextRun(self._courses, self._makers, self._most)
        told = run.told(way, k, worth)
        self._take(run)
        return told

    def begin(self, name, things=()):
        """The number of a new maker of the function of this name."""
        look_at_beginning(self._params, self._makers, name, things)
        run = TextRun(self._courses, self._makers, self._most)
        number = run.make(name, things)
        self._take(run)
        return number

    def ask(self, k, worth=None):
        """What comes of asking a maker with a worth."""
        look_for(self._makers, k)
        look_at_worth(self._makers, worth)
        return self._told("ask", k, worth)

    def toss(self, k, number):
        """What comes of tossing a maker a number."""
        look_for(self._makers, k)
        look_at_number(number)
        return self._told("toss", k, number)

    def close(self, k):
        """What comes of closing a maker."""
        look_for(self._makers, k)
        return self._told("close", k, None)

    def said(self):
        """All that was said, pairs of a maker's number and a worth."""
        return list(self._said)

    def state(self, k):
        """Whether a maker is "new", "stands" or is "over"."""
        return look_for(self._makers, k).stage

    def _alive_names(self, maker):
        """The boxes of a maker that are alive, those that returns are kept in with them, rising."""
        course = self._courses[maker.name]
        if maker.stage == "over":
            return []
        if maker.stage == "new":
            return course.alive_when_new()
        return course.alive_behind(maker.spot)

    def alive(self, k):
        """The boxes that some way on from where the maker is reads ahead of setting them, rising."""
        # Boxes in which a worth is kept through finals have a figure in their names; the text knows of none of them.
        return tuple([name for name in self._alive_names(look_for(self._makers, k)) if name.isalpha()])

    def held(self, k):
        """The numbers of the makers that a maker holds, each once."""
        maker = look_for(self._makers, k)
        return maker.held_in(in_order(self._alive_names(maker)))
