"""Tables drawn by chance, the same for the same seed; and what is told of tables, found by trying all."""

import itertools
import random

from byrows import reads, steps
from frozenmakers.tables import Table

BOXES = ["a", "b", "m", "n", "p01", "x2"]
WORDS = ["set", "set", "say", "if", "if", "make", "give", "give", "pull", "pull", "close", "all", "throw", "return", "end"]
LIVELY = ["set", "say", "if", "make", "make"] + ["give"] * 6 + ["pull"] * 3 + ["close", "all", "all", "throw", "return", "end"]
PARAMS = {"f": (), "g": ("a",), "h": ("m", "a")}
BOOK = "maker f; end; maker g a; end; maker h m a; end"
STEPS = ("to", "yes", "no", "over", "land", "close")


class Drawer:
    def __init__(self, seed, many, boxes):
        self.random = random.Random(seed)
        self.many = many
        self.boxes = boxes

    def box(self):
        return self.random.choice(self.boxes)

    def expression(self, depth=0):
        chance = self.random.random()
        if chance < 0.6 or depth > 2:
            return ("box", self.box())
        if chance < 0.8:
            return ("number", self.random.choice([0, 1, 2]))
        if chance < 0.85:
            return ("none",)
        sign = self.random.choice(["plus", "less", "under", "same", "same", "same"])
        return (sign, self.expression(depth + 1), self.expression(depth + 1))

    def to(self, number):
        # Mostly on to a row nearby, so that ways are long.
        if self.random.random() < 0.7:
            return (number + self.random.choice([1, 1, 1, 2, 3])) % self.many
        return self.random.randrange(self.many)

    def row(self, number, words):
        word = self.random.choice(words)
        if word in ("set", "give", "all"):
            return (word, self.box(), self.expression(), self.to(number))
        if word in ("say", "close"):
            return (word, self.expression(), self.to(number))
        if word == "if":
            return (word, self.expression(), self.to(number), self.to(number))
        if word == "make":
            name = self.random.choice(list(PARAMS))
            return (word, self.box(), name, tuple(self.expression() for _ in PARAMS[name]), self.to(number))
        if word == "pull":
            way = self.random.choice(["ask", "ask", "toss"])
            return (word, self.box(), way, self.expression(2), self.expression(), self.to(number), self.to(number))
        return (word,) if word == "end" else (word, self.expression())

    def table(self, name, words, landing):
        rows = [self.row(number, words) for number in range(self.many)]
        lands, closes = {}, {}
        for number, row in enumerate(rows):
            if self.random.random() < landing:
                lands[number] = (self.to(number), self.box())
            if row[0] in ("give", "all") and self.random.random() < 0.5:
                closes[number] = self.to(number)
        return Table(name, PARAMS[name], rows, lands=lands, closes=closes)


def drawn(seed, many, name="h", words=WORDS, boxes=BOXES, landing=0.3):
    """A table of so many rows."""
    return Drawer(seed, many, boxes).table(name, words, landing)


def words_from(table, number):
    """The steps from a row by their words, each a row and a box or None."""
    row = table.rows[number]
    names = {"if": ["yes", "no"], "pull": ["to", "over"], "throw": [], "return": [], "end": []}.get(row[0], ["to"])
    found = dict(zip(names, steps(table, number)))
    if number in table.lands:
        found["land"] = table.lands[number]
    if number in table.closes:
        found["close"] = (table.closes[number], None)
    return found


def ways(table, number, many):
    """All ways of so many rows from a row, each with the boxes that each step may leave as they are, rising."""
    found = [[number]]
    for _ in range(many - 1):
        found = [way + [to] for way in found for to in sorted({each for each, _ in steps(table, way[-1])})]
    return found


def is_way(table, way, box):
    """Whether a list of rows is a way by which the box is read, no step ahead setting it."""
    if box not in reads(table.rows[way[-1]]):
        return False
    pairs = itertools.pairwise(way)
    return all(any(to == second and setting != box for to, setting in steps(table, first)) for first, second in pairs)


def least_way(table, number, box, most):
    """The least of the shortest ways, by trying all of up to so many rows."""
    for many in range(1, most + 1):
        for way in ways(table, number, many):
            if is_way(table, way, box):
                return way
    return None


def itself(table, number):
    """What a row is but for the numbers of rows."""
    row = table.rows[number]
    targets = {"set": 1, "say": 1, "if": 2, "make": 1, "give": 1, "pull": 2, "close": 1, "all": 1}.get(row[0], 0)
    land = table.lands.get(number, (None, None))[1]
    return (row[:len(row) - targets], land, number in table.closes)


def rounds(tables):
    """The rows of all tables, parted round by round: a list of dicts from (table's number, row) to a class."""
    rows = [(at, number) for at, table in enumerate(tables) for number in range(len(table.rows))]
    classes = {}
    current = {}
    for at, number in rows:
        current[at, number] = classes.setdefault(itself(tables[at], number), len(classes))
    found = [current]
    while True:
        classes, following = {}, {}
        for at, number in rows:
            onward = [current[at, to] for to, _ in words_from(tables[at], number).values()]
            following[at, number] = classes.setdefault((current[at, number], tuple(onward)), len(classes))
        if len(set(following.values())) == len(set(current.values())):
            return found
        found.append(following)
        current = following


def path_apart(found, tables, i, j):
    """The shortest path, of these the least, by the rounds in which rows are parted; None of rows that are alike."""
    if found[-1][0, i] == found[-1][1, j]:
        return None
    path = []
    far = next(far for far, classes in enumerate(found) if classes[0, i] != classes[1, j])
    while far > 0:
        one, other = words_from(tables[0], i), words_from(tables[1], j)
        far -= 1
        word = next(word for word in STEPS if word in one and found[far][0, one[word][0]] != found[far][1, other[word][0]])
        path.append(word)
        i, j = one[word][0], other[word][0]
    return path
