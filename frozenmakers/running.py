"""Makers that run by the text, one asking at a time."""

from frozenmakers.books import BUSY, DEEP, STUBBORN
from frozenmakers.errors import TooLong
from frozenmakers.worths import Fault, is_so, maker_of, number_of, worked_out

MOST_RUNNING = 12


class Maker:
    """A maker: where it is, and what its boxes hold."""

    def __init__(self, number, name, boxes, place, stage="new", passing=None):
        self.number = number
        self.name = name
        # With them the boxes in which worths are kept through finals; one that isn't there holds None.
        self.boxes = boxes
        self.place = place
        # "new", "stands", "runs" or "over".
        self.stage = stage
        # Where it stands at an all: the number of the maker to which it passes on what it is asked.
        self.passing = passing

    def twin(self):
        """One that is as this one is."""
        return Maker(self.number, self.name, dict(self.boxes), self.place, self.stage, self.passing)

    def worth_of(self, expression):
        """What an expression comes to here."""
        return worked_out(expression, self.boxes)

    def statement(self):
        """The statement at which it is, None at the end of a body."""
        level, at = self.place
        return level.body[at] if at < len(level.body) else None

    def go_behind(self):
        """Goes on behind its statement."""
        level, at = self.place
        self.place = (level, at + 1)

    def go_into(self, word):
        """Goes on to the beginning of a body of its statement."""
        level, at = self.place
        self.place = (level.inner(at, word), 0)

    def leave(self, way, worth=None):
        """Leaves its body; tells what comes of it where it leaves the maker, else None."""
        level, _ = self.place
        if way == "end" and level.box is not None:
            worth = self.boxes[level.box]
        onward, place, box = level.exits[way]
        if place is None:
            self.finish()
            return ("raised", worth) if onward == "fault" else ("ended", worth)
        self.place = place
        if box is not None:
            self.boxes[box] = worth
        return None

    def stand(self, worth, passing=None):
        """Gives a worth, and stands at its statement."""
        self.stage = "stands"
        self.passing = passing
        return ("gave", worth)

    def finish(self):
        """Is over."""
        self.stage = "over"
        self.boxes = {}
        self.passing = None


# What each statement does, of a maker that runs; told is what comes of it where the maker gives or is over, else None.
def _set(run, maker, statement):
    maker.boxes[statement[1]] = maker.worth_of(statement[2])
    maker.go_behind()


def _say(run, maker, statement):
    run.heard.append((maker.number, maker.worth_of(statement[1])))
    maker.go_behind()


def _give(run, maker, statement):
    return maker.stand(maker.worth_of(statement[2]))


def _if(run, maker, statement):
    maker.go_into("if" if is_so(maker.worth_of(statement[1])) else "else")


def _while(run, maker, statement):
    if is_so(maker.worth_of(statement[1])):
        maker.go_into("while")
    else:
        maker.go_behind()


def _leave(run, maker, statement):
    return maker.leave(statement[0])


def _return(run, maker, statement):
    return maker.leave("return", maker.worth_of(statement[1]))


def _throw(run, maker, statement):
    raise Fault(number_of(maker.worth_of(statement[1])))


def _try(run, maker, statement):
    maker.go_into("first")


def _make(run, maker, statement):
    _, box, name, things = statement
    maker.boxes[box] = ("maker", run.make(name, [maker.worth_of(thing) for thing in things]))
    maker.go_behind()


def _pull(run, maker, statement):
    _, box, way, asked, sent, _ = statement
    number = maker_of(maker.worth_of(asked))
    worth = maker.worth_of(sent)
    if way == "toss":
        number_of(worth)
    told = run.told_within(way, number, worth)
    maker.boxes[box] = told[1]
    if told[0] == "ended":
        maker.go_into("pull")
    else:
        maker.go_behind()


def _close(run, maker, statement):
    run.told_within("close", maker_of(maker.worth_of(statement[1])), None)
    maker.go_behind()


def _all(run, maker, statement):
    return run.pass_on(maker, maker_of(maker.worth_of(statement[2])), "ask", None)


ACTIONS = {
    "set": _set, "say": _say, "give": _give, "if": _if, "while": _while, "break": _leave, "again": _leave,
    "return": _return, "throw": _throw, "try": _try, "make": _make, "pull": _pull, "close": _close, "all": _all,
}


class Run:
    """One asking: it goes on with makers of its own, so that nothing is changed where it goes too far."""

    def __init__(self, courses, makers, most):
        self.courses = courses
        self.makers = {number: makers[number].twin() for number in makers}
        self.heard = []
        self.most = most
        # How many statements are begun, and how many makers run.
        self.begun = 0
        self.running = 0

    def make(self, name, things):
        """Makes a new maker; tells its number."""
        course = self.courses[name]
        number = len(self.makers) + 1
        self.makers[number] = Maker(number, name, dict(zip(course.params, things)), course.first)
        return number

    def told(self, way, number, worth):
        """What comes of asking, tossing or closing a maker that doesn't run."""
        maker = self.makers[number]
        if maker.stage == "over" or (maker.stage == "new" and way != "ask"):
            maker.finish()
            if way == "close":
                return ("closed",)
            return ("raised", worth) if way == "toss" else ("ended", None)
        was_new = maker.stage == "new"
        maker.stage = "runs"
        self.running += 1
        told = None if was_new else self.go_on(maker, way, worth)
        while told is None:
            told = self.step(maker)
        self.running -= 1
        if way != "close" or told[0] == "raised":
            return told
        return ("raised", STUBBORN) if told[0] == "gave" else ("closed",)

    def told_within(self, way, number, worth):
        """What comes of asking, tossing or closing a maker from within one that runs; Fault where it raises."""
        if self.makers[number].stage == "runs":
            raise Fault(BUSY)
        if self.running == MOST_RUNNING:
            raise Fault(DEEP)
        told = self.told(way, number, worth)
        if told[0] == "raised":
            raise Fault(told[1])
        return told

    def go_on(self, maker, way, worth):
        """Goes on with a maker that stood, asked, tossed or closed."""
        statement = maker.statement()
        if statement[0] == "all":
            try:
                return self.pass_on(maker, maker.passing, way, worth)
            except Fault as fault:
                return maker.leave("fault", fault.number)
        if way == "toss":
            return maker.leave("fault", worth)
        if way == "close":
            return maker.leave("closing")
        maker.boxes[statement[1]] = worth
        maker.go_behind()
        return None

    def pass_on(self, maker, inner, way, worth):
        """Passes on to the maker of an all what this one is asked there."""
        told = self.told_within(way, inner, worth)
        if told[0] == "gave":
            return maker.stand(told[1], inner)
        if told[0] == "closed":
            return maker.leave("closing")
        maker.boxes[maker.statement()[1]] = told[1]
        maker.go_behind()
        return None

    def step(self, maker):
        """Does one statement, or leaves a body at its end."""
        statement = maker.statement()
        if statement is None:
            return maker.leave("end")
        self.begun += 1
        if self.begun > self.most:
            raise TooLong(self.most)
        action = ACTIONS[statement[0]]
        try:
            return action(self, maker, statement)
        except Fault as fault:
            return maker.leave("fault", fault.number)
