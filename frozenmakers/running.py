"""What makers do that are asked, be it by the text or by rows."""

from frozenmakers.books import BUSY, DEEP, STUBBORN
from frozenmakers.errors import TooLong
from frozenmakers.worths import Fault, is_so, maker_of, number_of, worked_out

MOST_RUNNING = 12


class Maker:
    """A maker: where it is, and what its boxes hold.

    Those that go by the text and those that go by rows tell each by itself: statement, at which it is; go_behind it;
    go_into a body of it; leave, which tells what comes of it where it leaves the maker, else None.
    """

    def __init__(self, number, name, worths, spot, stage="new", passing=None):
        self.number = number
        self.name = name
        # What each box holds; one that isn't there holds None.
        self.worths = worths
        self.spot = spot
        # "new", "stands", "runs" or "over".
        self.stage = stage
        # Where it stands at an all: the number of the maker to which it passes on what it is asked.
        self.passing = passing

    def worth_of(self, expression):
        """What an expression comes to here."""
        return worked_out(expression, self.worths)

    def stand(self, worth, passing=None):
        """Gives a worth, and stands at its statement."""
        self.stage = "stands"
        self.passing = passing
        return ("gave", worth)

    def finish(self):
        """Is over."""
        self.stage = "over"
        self.worths = {}
        self.passing = None

    def held_in(self, names):
        """The numbers of the makers in these boxes, then of the one of its all, each once."""
        worths = [self.worths.get(name) for name in names]
        if self.passing is not None:
            worths.append(("maker", self.passing))
        found = {}
        for worth in worths:
            if type(worth) is tuple:
                found[worth[1]] = True
        return list(found)


# What each statement does, of a maker that runs; told is what comes of it where the maker gives or is over, else None.
def _set(run, maker, statement):
    maker.worths[statement[1]] = maker.worth_of(statement[2])
    maker.go_behind()


def _say(run, maker, statement):
    run.heard.append((maker.number, maker.worth_of(statement[1])))
    maker.go_behind()


def _give(run, maker, statement):
    return maker.stand(maker.worth_of(statement[2]))


def _if(run, maker, statement):
    maker.go_into("if" if is_so(maker.worth_of(statement[1])) else "else")


def _while(run, maker, statement):
    if is_so(maker.worth_of(statement[1])):
        maker.go_into("while")
    else:
        maker.go_behind()


def _leave(run, maker, statement):
    return maker.leave(statement[0])


def _return(run, maker, statement):
    return maker.leave("return", maker.worth_of(statement[1]))


def _throw(run, maker, statement):
    raise Fault(number_of(maker.worth_of(statement[1])))


def _try(run, maker, statement):
    maker.go_into("first")


def _make(run, maker, statement):
    box, name, things = statement[1:4]
    maker.worths[box] = ("maker", run.make(name, [maker.worth_of(thing) for thing in things]))
    maker.go_behind()


def _pull(run, maker, statement):
    box, way, asked, sent = statement[1:5]
    number = maker_of(maker.worth_of(asked))
    worth = maker.worth_of(sent)
    if way == "toss":
        number_of(worth)
    told = run.told_within(way, number, worth)
    maker.worths[box] = told[1]
    if told[0] == "ended":
        maker.go_into("pull")
    else:
        maker.go_behind()


def _close(run, maker, statement):
    run.told_within("close", maker_of(maker.worth_of(statement[1])), None)
    maker.go_behind()


def _all(run, maker, statement):
    return run.pass_on(maker, maker_of(maker.worth_of(statement[2])), "ask", None)


ACTIONS = {
    "set": _set, "say": _say, "give": _give, "if": _if, "while": _while, "break": _leave, "again": _leave,
    "return": _return, "throw": _throw, "try": _try, "make": _make, "pull": _pull, "close": _close, "all": _all,
    "end": _leave,
}


class Run:
    """Makers by their numbers, asked from outside and by one another; those below it make makers of their kind."""

    def __init__(self, makers, last, most=None):
        self.makers = makers
        # The last number told to a maker.
        self.last = last
        self.heard = []
        # How many statements are begun, and how many may be; None is for any number of them.
        self.begun = 0
        self.most = most
        # How many makers run.
        self.running = 0

    def take_in(self, maker):
        """Takes in a new maker, which has the number behind the last one."""
        self.last = maker.number
        self.makers[maker.number] = maker

    def told(self, way, number, worth):
        """What comes of asking, tossing or closing a maker that doesn't run."""
        maker = self.makers[number]
        if maker.stage == "over" or (maker.stage == "new" and way != "ask"):
            maker.finish()
            if way == "close":
                return ("closed",)
            return ("raised", worth) if way == "toss" else ("ended", None)
        was_new = maker.stage == "new"
        maker.stage = "runs"
        self.running += 1
        told = None if was_new else self.go_on(maker, way, worth)
        while told is None:
            told = self.step(maker)
        self.running -= 1
        if way != "close" or told[0] == "raised":
            return told
        return ("raised", STUBBORN) if told[0] == "gave" else ("closed",)

    def told_within(self, way, number, worth):
        """What comes of asking, tossing or closing a maker from within one that runs; Fault where it raises."""
        if self.makers[number].stage == "runs":
            raise Fault(BUSY)
        if self.running == MOST_RUNNING:
            raise Fault(DEEP)
        told = self.told(way, number, worth)
        if told[0] == "raised":
            raise Fault(told[1])
        return told

    def go_on(self, maker, way, worth):
        """Goes on with a maker that stood, asked, tossed or closed."""
        statement = maker.statement()
        if statement[0] == "all":
            try:
                return self.pass_on(maker, maker.passing, way, worth)
            except Fault as fault:
                return maker.leave("fault", fault.number)
        if way == "toss":
            return maker.leave("fault", worth)
        if way == "close":
            return maker.leave("closing")
        maker.worths[statement[1]] = worth
        maker.go_behind()
        return None

    def pass_on(self, maker, inner, way, worth):
        """Passes on to the maker of an all what this one is asked there."""
        told = self.told_within(way, inner, worth)
        if told[0] == "gave":
            return maker.stand(told[1], inner)
        if told[0] == "closed":
            return maker.leave("closing")
        maker.worths[maker.statement()[1]] = told[1]
        maker.go_behind()
        return None

    def step(self, maker):
        """Does one statement, or leaves a body at its end."""
        statement = maker.statement()
        if statement is None:
            return maker.leave("end")
        self.begun += 1
        if self.most is not None and self.begun > self.most:
            raise TooLong(self.most)
        action = ACTIONS[statement[0]]
        try:
            return action(self, maker, statement)
        except Fault as fault:
            return maker.leave("fault", fault.number)
