"""Plain runs once more, by other means: Python's own generators and errors; alive boxes by the nesting of the text."""

from frozenmakers.books import BUSY, DEEP, KIND, MODULUS, STUBBORN


class Exit(Exception):
    """What leaves a body: way is "break", "again", "return", "fault" or "closing"."""

    def __init__(self, way, worth=None):
        Exception.__init__(self, way)
        self.way = way
        self.worth = worth


class Long(Exception):
    """Too many statements."""


def fault(number):
    return Exit("fault", number)


def read_in(expression):
    """The boxes that an expression reads."""
    if expression[0] == "box":
        return {expression[1]}
    if expression[0] in ("number", "none"):
        return set()
    return read_in(expression[1]) | read_in(expression[2])


def without(found, box):
    return {each for each in found if each != box}


def exits_of_try(statement, after, exits):
    """What is alive where the first and the second body of a try are left, by each way."""
    _, _, caught, second, final = statement
    out = {**exits, "end": after}
    behind = dict(out)
    if final:
        behind = {way: alive_from(final, 0, {**out, "end": out[way]}) for way in out}
    ahead = dict(behind)
    if caught is not None:
        ahead["fault"] = without(alive_from(second, 0, behind), caught)
    return ahead, behind


def head_of_while(statement, after, exits):
    """What is alive where a while is asked."""
    found = set()
    while True:
        inner = {**exits, "end": found, "again": found, "break": after}
        more = read_in(statement[1]) | exits["fault"] | after | alive_from(statement[2], 0, inner)
        if more == found:
            return found
        found = more


def behind_standing(statement, after, exits):
    return without(after, statement[1]) | exits["fault"] | exits["closing"]


def alive_at(statement, after, exits):
    """What is alive ahead of a statement."""
    word = statement[0]
    if word in ("break", "again"):
        return exits[word]
    if word == "try":
        ahead, _ = exits_of_try(statement, after, exits)
        return alive_from(statement[1], 0, ahead)
    if word == "while":
        return head_of_while(statement, after, exits)
    faulty = exits["fault"]
    if word == "set":
        return read_in(statement[2]) | without(after, statement[1]) | faulty
    if word in ("say", "close"):
        return read_in(statement[1]) | after | faulty
    if word in ("give", "all"):
        return read_in(statement[2]) | behind_standing(statement, after, exits)
    if word == "if":
        inner = {**exits, "end": after}
        return read_in(statement[1]) | faulty | alive_from(statement[2], 0, inner) | alive_from(statement[3], 0, inner)
    if word == "return":
        return read_in(statement[1]) | exits["return"] | faulty
    if word == "throw":
        return read_in(statement[1]) | faulty
    if word == "make":
        return set().union(*map(read_in, statement[3])) | without(after, statement[1]) | faulty
    assert word == "pull"
    behind = after | alive_from(statement[5], 0, {**exits, "end": after})
    return read_in(statement[3]) | read_in(statement[4]) | without(behind, statement[1]) | faulty


def alive_from(body, at, exits):
    """What is alive ahead of a body's statement of that number, exits telling what is where it is left."""
    found = exits["end"]
    for statement in body[at:][::-1]:
        found = alive_at(statement, found, exits)
    return found


class Spot:
    """A body that is being done."""

    def __init__(self, word, body, pending=None):
        self.word = word
        self.body = body
        self.at = 0
        self.pending = pending


class Maker:
    def __init__(self, world, number, function, things):
        self.number = number
        self.function = function
        self.boxes = dict(zip(function.params, things))
        self.stage = "new"
        self.spots = []
        self.inner = None
        self.steps = world.body(self, "maker", function.body)

    def told_alive(self):
        """What is alive, and of each final that is being done behind a return whether some way comes to its end."""
        if self.stage == "over":
            return set(), {}
        exits = {"end": set(), "return": set(), "fault": set(), "closing": set()}
        if self.stage == "new":
            return alive_from(self.function.body, 0, exits), {}
        tokens = {}
        for number, spot in enumerate(self.spots):
            if number > 0:
                exits = self.exits_into(number, exits, tokens)
        spot = self.spots[-1]
        found = behind_standing(spot.body[spot.at], alive_from(spot.body, spot.at + 1, exits), exits)
        ends = {number: tokens[number] for number in tokens if ("end", number) in found}
        return {each for each in found if type(each) is str}, ends

    def exits_into(self, number, exits, tokens):
        """What is alive where a body that is being done is left, exits telling it of the one around."""
        spot, around = self.spots[number], self.spots[number - 1]
        statement = around.body[around.at]
        after = alive_from(around.body, around.at + 1, exits)
        if spot.word in ("first", "second"):
            return exits_of_try(statement, after, exits)[spot.word == "second"]
        if spot.word == "while":
            head = head_of_while(statement, after, exits)
            return {**exits, "end": head, "again": head, "break": after}
        if spot.word != "final":
            return {**exits, "end": after}
        out = {**exits, "end": after}
        if spot.pending is None:
            return out
        behind = out[spot.pending.way]
        if spot.pending.way == "return":
            tokens[number] = spot.pending.worth
            behind = behind | {("end", number)}
        return {**out, "end": behind}

    def told_held(self):
        found, ends = self.told_alive()
        worths = [self.boxes.get(box) for box in sorted(found)]
        worths += [ends[number] for number in sorted(ends)]
        if self.inner is not None:
            worths.append(("maker", self.inner))
        return list(dict.fromkeys(worth[1] for worth in worths if type(worth) is tuple))


class World:
    def __init__(self, book, most):
        self.book = book
        self.most = most
        self.functions = {each.name: each for each in book.functions}
        self.makers = {}
        self.said = []
        self.deeds = []
        self.count = 0
        self.running = 0

    # From here on what is asked from outside.
    def begin(self, name, things):
        self.deeds.append(("begin", name, things))
        return self.make(name, things)

    def deed(self, way, number, worth=None):
        """What is told; None where it is too long."""
        self.count = 0
        try:
            told = self.told(way, number, worth)
        except Long:
            deeds = self.deeds
            World.__init__(self, self.book, self.most)
            for word, *rest in deeds:
                if word == "begin":
                    self.begin(*rest)
                else:
                    self.deed(word, *rest)
            return None
        self.deeds.append((way, number, worth))
        return told

    # From here on what makers do.
    def make(self, name, things):
        number = len(self.makers) + 1
        self.makers[number] = Maker(self, number, self.functions[name], things)
        return number

    def told(self, way, number, worth):
        maker = self.makers[number]
        was = maker.stage
        if was == "over" or was == "new" and way != "ask":
            maker.stage = "over"
            return {"ask": ("ended", None), "toss": ("raised", worth), "close": ("closed",)}[way]
        maker.stage = "runs"
        self.running += 1
        told = self.sent(maker, None if was == "new" else (way, worth))
        self.running -= 1
        maker.stage = "stands" if told[0] == "gave" else "over"
        if way == "close":
            return {"gave": ("raised", STUBBORN), "ended": ("closed",), "raised": told}[told[0]]
        return told

    def sent(self, maker, message):
        try:
            return ("gave", maker.steps.send(message))
        except StopIteration:
            return ("ended", None)
        except Exit as left:
            return ("raised", left.worth) if left.way == "fault" else ("ended", left.worth)

    def within(self, way, worth, sent):
        """Asks another maker from within one."""
        if type(worth) is not tuple or way == "toss" and type(sent) is not int:
            raise fault(KIND)
        if self.makers[worth[1]].stage == "runs":
            raise fault(BUSY)
        if self.running >= 12:
            raise fault(DEEP)
        told = self.told(way, worth[1], sent)
        if told[0] == "raised":
            raise fault(told[1])
        return told

    def body(self, maker, word, body, pending=None):
        spot = Spot(word, body, pending)
        maker.spots.append(spot)
        try:
            for at, statement in enumerate(body):
                spot.at = at
                yield from self.statement(maker, statement)
        finally:
            maker.spots.pop()

    def begun(self):
        self.count += 1
        if self.count > self.most:
            raise Long()

    def statement(self, maker, statement):
        word = statement[0]
        if word == "while":
            yield from self.loop(maker, statement)
            return
        self.begun()
        if word in ("break", "again"):
            raise Exit(word)
        if word == "give":
            way, worth = yield self.worth(maker, statement[2])
            if way == "toss":
                raise fault(worth)
            if way == "close":
                raise Exit("closing")
            maker.boxes[statement[1]] = worth
        elif word == "if":
            so = self.so(maker, statement[1])
            yield from self.body(maker, "if" if so else "else", statement[2] if so else statement[3])
        elif word == "try":
            yield from self.trying(maker, statement)
        elif word == "pull":
            told = self.within(statement[2], self.worth(maker, statement[3]), self.worth(maker, statement[4]))
            maker.boxes[statement[1]] = told[1]
            if told[0] == "ended":
                yield from self.body(maker, "pull", statement[5])
        elif word == "all":
            yield from self.passing(maker, statement)
        else:
            self.simple(maker, statement)

    def simple(self, maker, statement):
        word = statement[0]
        if word == "set":
            maker.boxes[statement[1]] = self.worth(maker, statement[2])
        elif word == "say":
            self.said.append((maker.number, self.worth(maker, statement[1])))
        elif word == "return":
            raise Exit("return", self.worth(maker, statement[1]))
        elif word == "throw":
            worth = self.worth(maker, statement[1])
            raise fault(worth if type(worth) is int else KIND)
        elif word == "make":
            things = [self.worth(maker, thing) for thing in statement[3]]
            maker.boxes[statement[1]] = ("maker", self.make(statement[2], things))
        else:
            assert word == "close"
            self.within("close", self.worth(maker, statement[1]), None)

    def loop(self, maker, statement):
        while True:
            self.begun()
            if not self.so(maker, statement[1]):
                return
            try:
                yield from self.body(maker, "while", statement[2])
            except Exit as left:
                if left.way == "break":
                    return
                if left.way != "again":
                    raise

    def trying(self, maker, statement):
        _, first, caught, second, final = statement
        pending = None
        try:
            try:
                yield from self.body(maker, "first", first)
            except Exit as left:
                if left.way != "fault" or caught is None:
                    raise
                maker.boxes[caught] = left.worth
                yield from self.body(maker, "second", second)
        except Exit as left:
            pending = left
        if final:
            yield from self.body(maker, "final", final, pending)
        if pending is not None:
            raise pending

    def passing(self, maker, statement):
        inner = self.worth(maker, statement[2])
        way, worth = "ask", None
        while True:
            told = self.within(way, inner, worth)
            if told[0] == "closed":
                raise Exit("closing")
            if told[0] == "ended":
                maker.boxes[statement[1]] = told[1]
                return
            maker.inner = inner[1]
            way, worth = yield told[1]
            maker.inner = None

    def so(self, maker, expression):
        return self.worth(maker, expression) not in (0, None)

    def worth(self, maker, expression):
        word = expression[0]
        if word == "number":
            return expression[1]
        if word == "none":
            return None
        if word == "box":
            return maker.boxes.get(expression[1])
        one, other = self.worth(maker, expression[1]), self.worth(maker, expression[2])
        if word == "same":
            return int(one == other)
        if type(one) is not int or type(other) is not int:
            raise fault(KIND)
        return {
            "plus": (one + other) % MODULUS, "less": (one - other) % MODULUS, "times": one * other % MODULUS,
            "under": int(one < other),
        }[word]
