"""Makers that go by the rows of tables, and what is alive at these; all that isn't alive they forget."""

from frozenmakers.books import BUSY, DEEP, KIND, STUBBORN
from oracle import read_in

# Where in a row stand the expressions that it reads, and the rows to which it goes on.
READS = {
    "set": [2], "say": [1], "if": [1], "make": [], "give": [2], "pull": [3, 4], "close": [1], "all": [2], "throw": [1],
    "return": [1], "end": [],
}
GOES = {
    "set": [3], "say": [2], "if": [2, 3], "make": [4], "give": [3], "pull": [5, 6], "close": [2], "all": [3], "throw": [],
    "return": [], "end": [],
}
SETTING = ("set", "make", "give", "pull", "all")


def reads(row):
    parts = row[3] if row[0] == "make" else [row[at] for at in READS[row[0]]]
    return set().union(*map(read_in, parts))


def steps(table, number):
    """The rows to which some way goes on from a row, each with the box that is set on that step or None."""
    row = table.rows[number]
    found = [(row[at], row[1] if row[0] in SETTING else None) for at in GOES[row[0]]]
    if number in table.lands:
        found.append(table.lands[number])
    if number in table.closes:
        found.append((table.closes[number], None))
    return found


def alive_rows(table):
    """The boxes alive at each row, and behind each row."""
    alive = [reads(row) for row in table.rows]
    behind = [set() for _ in table.rows]
    is_growing = True
    while is_growing:
        is_growing = False
        for number in range(len(alive))[::-1]:
            for to, box in steps(table, number):
                behind[number] |= {each for each in alive[to] if each != box}
            if not behind[number] <= alive[number]:
                alive[number] |= behind[number]
                is_growing = True
    return alive, behind


class Raised(Exception):
    def __init__(self, number):
        Exception.__init__(self, number)
        self.number = number


class Rower:
    def __init__(self, table, number, things):
        self.table = table
        self.number = number
        self.boxes = dict(zip(table.params, things))
        self.row = 0
        self.stage = "new"
        self.inner = None


class Long(Exception):
    """Too many rows."""


class Rows:
    """A house of makers by tables; of an asking by which more than most rows are done it is of no use any more."""

    def __init__(self, tables, most=10 ** 6):
        self.tables = tables
        self.most = most
        self.done = 0
        self.alive = {name: alive_rows(tables[name]) for name in tables}
        self.makers = {}
        self.said = []
        self.running = 0

    def begin(self, name, things):
        number = len(self.makers) + 1
        maker = Rower(self.tables[name], number, things)
        self.makers[number] = maker
        self.forget(maker, self.alive[name][0][0])
        return number

    def forget(self, maker, kept):
        maker.boxes = {box: maker.boxes.get(box) for box in sorted(kept)}

    def kept(self, number):
        """The boxes that a maker keeps."""
        return sorted(self.makers[number].boxes)

    def held(self, number):
        maker = self.makers[number]
        names = sorted(maker.boxes, key=lambda name: (not name.isalpha(), name))
        worths = [maker.boxes[name] for name in names]
        if maker.inner is not None:
            worths.append(("maker", maker.inner))
        return list(dict.fromkeys(worth[1] for worth in worths if type(worth) is tuple))

    def told(self, way, number, worth=None):
        maker = self.makers[number]
        if maker.stage == "over" or maker.stage == "new" and way != "ask":
            self.finish(maker)
            return {"ask": ("ended", None), "toss": ("raised", worth), "close": ("closed",)}[way]
        was = maker.stage
        maker.stage = "runs"
        self.running += 1
        told = self.attempt(maker, lambda: self.wake(maker, way, worth)) if was == "stands" else None
        while told is None:
            told = self.attempt(maker, lambda: self.step(maker))
        self.running -= 1
        if told[0] == "gave":
            maker.stage = "stands"
            self.forget(maker, self.alive[maker.table.name][1][maker.row])
        else:
            self.finish(maker)
        if way == "close":
            return {"gave": ("raised", STUBBORN), "ended": ("closed",), "raised": told}[told[0]]
        return told

    def finish(self, maker):
        maker.stage = "over"
        maker.boxes = {}
        maker.inner = None

    def attempt(self, maker, call):
        try:
            return call()
        except Raised as fault:
            if maker.row not in maker.table.lands:
                return ("raised", fault.number)
            maker.row, box = maker.table.lands[maker.row]
            maker.boxes[box] = fault.number
            return None

    def within(self, way, worth, sent):
        if type(worth) is not tuple or way == "toss" and type(sent) is not int:
            raise Raised(KIND)
        if self.makers[worth[1]].stage == "runs":
            raise Raised(BUSY)
        if self.running == 12:
            raise Raised(DEEP)
        told = self.told(way, worth[1], sent)
        if told[0] == "raised":
            raise Raised(told[1])
        return told

    def wake(self, maker, way, worth):
        row = maker.table.rows[maker.row]
        if row[0] == "all":
            inner, maker.inner = maker.inner, None
            return self.through(maker, row, way, ("maker", inner), worth)
        if way == "toss":
            raise Raised(worth)
        if way == "close":
            return self.closing(maker)
        maker.boxes[row[1]] = worth
        maker.row = row[3]
        return None

    def closing(self, maker):
        if maker.row not in maker.table.closes:
            return ("ended", None)
        maker.row = maker.table.closes[maker.row]
        return None

    def through(self, maker, row, way, inner, worth):
        told = self.within(way, inner, worth)
        if told[0] == "closed":
            return self.closing(maker)
        if told[0] == "gave":
            maker.inner = inner[1]
            return told
        maker.boxes[row[1]] = told[1]
        maker.row = row[3]
        return None

    def step(self, maker):
        self.done += 1
        if self.done > self.most:
            raise Long()
        row = maker.table.rows[maker.row]
        word = row[0]
        if word == "end":
            return ("ended", None)
        if word == "make":
            things = [worth_of(thing, maker.boxes) for thing in row[3]]
            maker.boxes[row[1]] = ("maker", self.begin(row[2], things))
            maker.row = row[4]
            return None
        worths = [worth_of(row[at], maker.boxes) for at in READS[word]]
        if word == "give":
            return ("gave", worths[0])
        if word == "return":
            return ("ended", worths[0])
        if word == "throw":
            raise Raised(worths[0] if type(worths[0]) is int else KIND)
        if word == "all":
            return self.through(maker, row, "ask", worths[0], None)
        if word == "pull":
            told = self.within(row[2], *worths)
            maker.boxes[row[1]] = told[1]
            maker.row = row[5] if told[0] == "gave" else row[6]
            return None
        if word == "if":
            maker.row = row[2] if worths[0] not in (0, None) else row[3]
            return None
        if word == "set":
            maker.boxes[row[1]] = worths[0]
        elif word == "say":
            self.said.append((maker.number, worths[0]))
        else:
            self.within("close", worths[0], None)
        maker.row = row[-1]
        return None


class Unforgetting(Rows):
    """The same, but its makers forget nothing."""

    def forget(self, maker, kept):
        pass


def worth_of(expression, boxes):
    word = expression[0]
    if word in ("number", "none"):
        return expression[1] if word == "number" else None
    if word == "box":
        return boxes.get(expression[1])
    one, other = worth_of(expression[1], boxes), worth_of(expression[2], boxes)
    if word == "same":
        return 1 if one == other else 0
    if type(one) is not int or type(other) is not int:
        raise Raised(KIND)
    if word == "under":
        return 1 if one < other else 0
    sums = {"plus": one + other, "less": one - other, "times": one * other}
    return sums[word] % 1000003
