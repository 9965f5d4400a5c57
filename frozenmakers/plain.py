"""Plain runs: makers that go by the text."""

from frozenmakers.courses import Course
from frozenmakers.errors import NoMaker, NoName, NoThings, NoWorth
from frozenmakers.running import Run
from frozenmakers.worths import is_number, is_there, is_worth

MOST = 2000


def _is_list_of_worths(things, makers):
    return type(things) in (list, tuple) and all([is_worth(thing, makers) for thing in things])


class Plain:
    """Makers of the functions of a book, asked one at a time."""

    def __init__(self, book, *, most=MOST):
        self._courses = {function.name: Course(function) for function in book.functions}
        self._most = most
        self._makers = {}
        self._said = []

    def __len__(self):
        return len(self._makers)

    def _found(self, k):
        if not is_there(k, self._makers):
            raise NoMaker(k)
        return self._makers[k]

    def _take(self, run):
        self._makers = run.makers
        self._said.extend(run.heard)

    def _told(self, way, k, worth):
        run = Run(self._courses, self._makers, self._most)
        told = run.told(way, k, worth)
        self._take(run)
        return told

    def begin(self, name, things=()):
        """The number of a new maker of the function of this name."""
        if type(name) is not str or name not in self._courses:
            raise NoName(name)
        if not _is_list_of_worths(things, self._makers) or len(things) != len(self._courses[name].params):
            raise NoThings("no list of as many worths that are there as the function has params")
        run = Run(self._courses, self._makers, self._most)
        number = run.make(name, things)
        self._take(run)
        return number

    def ask(self, k, worth=None):
        """What comes of asking a maker with a worth."""
        self._found(k)
        if not is_worth(worth, self._makers):
            raise NoWorth("no worth that is there")
        return self._told("ask", k, worth)

    def toss(self, k, number):
        """What comes of tossing a maker a number."""
        self._found(k)
        if not is_number(number):
            raise NoWorth("no number that can be tossed")
        return self._told("toss", k, number)

    def close(self, k):
        """What comes of closing a maker."""
        self._found(k)
        return self._told("close", k, None)

    def said(self):
        """All that was said, pairs of a maker's number and a worth."""
        return list(self._said)

    def state(self, k):
        """Whether a maker is "new", "stands" or is "over"."""
        return self._found(k).stage

    def _alive_names(self, maker):
        """The boxes of a maker that are alive, those that returns are kept in with them, rising."""
        course = self._courses[maker.name]
        if maker.stage == "over":
            return []
        if maker.stage == "new":
            return course.alive_when_new()
        return course.alive_behind(maker.place)

    def alive(self, k):
        """The boxes that some way on from where the maker is reads ahead of setting them, rising."""
        # Boxes in which a worth is kept through finals have a figure in their names; the text knows of none of them.
        return tuple([name for name in self._alive_names(self._found(k)) if name.isalpha()])

    def held(self, k):
        """The numbers of the makers that a maker holds, each once."""
        maker = self._found(k)
        names = self._alive_names(maker)
        worths = [maker.boxes.get(name) for name in names if name.isalpha()]
        worths.extend([maker.boxes.get(name) for name in names if not name.isalpha()])
        if maker.passing is not None:
            worths.append(("maker", maker.passing))
        found = {}
        for worth in worths:
            if type(worth) is tuple:
                found[worth[1]] = True
        return list(found)
