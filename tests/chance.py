"""Books and deeds by chance, the same for the same seed."""

import random

from frozenmakers.books import BUSY, DEEP, KIND, STUBBORN, Book, Function

NUMBER_BOXES = ["a", "b", "c", "d"]
MAKER_BOXES = ["m", "m", "n"]
LEAVES = ["set", "say", "say"] + ["give"] * 8 + ["make", "make", "close", "all", "all"]
BRANCHES = ["if", "while"] + ["try"] * 6 + ["pull"] * 5
LEAVING = ["return", "throw", "break", "again"]
NUMBERS = [0, 1, 2, 3, 7]
FAULTS = NUMBERS + [KIND, BUSY, STUBBORN, DEEP]


class Writer:
    def __init__(self, seed):
        self.random = random.Random(seed)
        names = ["f", "g", "h", "i"][:self.random.choice([1, 2, 2, 3, 3, 4])]
        boxes = ["m", "a", "n"] if self.random.random() < 0.7 else ["a", "b", "c"]
        self.params = {name: tuple(boxes[:self.random.randrange(4)]) for name in names}
        self.left = 0

    def box(self):
        return self.random.choice(NUMBER_BOXES if self.random.random() < 0.93 else MAKER_BOXES)

    def expression(self, depth=0):
        chance = self.random.random()
        if chance < 0.4:
            return ("number", self.random.choice(NUMBERS))
        if chance < 0.45:
            return ("none",)
        if chance < 0.75:
            return ("box", self.box())
        if chance < 0.85 or depth == 3:
            return ("box", self.random.choice(MAKER_BOXES))
        if chance < 0.95:
            return ("same", self.expression(depth + 1), self.expression(depth + 1))
        return (self.random.choice(["plus", "less", "times", "under"]), self.expression(depth + 1), self.expression(3))

    def maker(self):
        """An expression that may well be a maker."""
        return ("box", self.random.choice(MAKER_BOXES if self.random.random() < 0.95 else NUMBER_BOXES))

    def things(self, name):
        return tuple(self.maker() if param in MAKER_BOXES else self.expression() for param in self.params[name])

    def body(self, depth, looped, many=None):
        found = []
        many = self.random.choice([0, 1, 1, 2, 2, 3]) if many is None else many
        for _ in range(many):
            if self.left > 0:
                self.left -= 1
                found.append(self.statement(depth, looped))
        if depth > 0 and self.left > 0 and self.random.random() < 0.25:
            self.left -= 1
            found.append(self.leaving(looped))
        return tuple(found)

    def leaving(self, looped):
        word = self.random.choice(LEAVING)
        if word in ("break", "again") and looped:
            return (word,)
        return ("return" if word == "again" else "throw" if word == "break" else word, self.expression())

    def statement(self, depth, looped):
        word = self.random.choice(LEAVES if depth == 4 else LEAVES + BRANCHES)
        if word in ("set", "give"):
            return (word, self.box(), self.expression())
        if word == "say":
            return (word, self.expression())
        if word == "make":
            name = self.random.choice(list(self.params))
            return (word, self.random.choice(MAKER_BOXES), name, self.things(name))
        if word == "close":
            return (word, self.maker())
        if word == "all":
            return (word, self.box(), self.maker())
        return self.branch(word, depth + 1, looped)

    def branch(self, word, depth, looped):
        if word == "if":
            return (word, self.expression(), self.body(depth, looped), self.body(depth, looped))
        if word == "while":
            if self.random.random() < 0.3:
                return (word, self.expression(), self.body(depth, True))
            counter = self.box()
            step = ("set", counter, ("plus", ("box", counter), ("number", 1)))
            return (word, ("under", ("box", counter), ("number", 3)), (step, *self.body(depth, True)))
        if word == "pull":
            way = self.random.choice(["ask", "ask", "toss"])
            sent = ("number", 3) if way == "toss" and self.random.random() < 0.9 else self.expression()
            return (word, self.box(), way, self.maker(), sent, self.body(depth, looped))
        first, final = self.body(depth, looped), self.body(depth, looped)
        if self.random.random() < 0.4:
            return (word, first, None, (), final or (("say", ("number", 9)),))
        return (word, first, self.box(), self.body(depth, looped), final)

    def function(self, name):
        self.left = self.random.choice([6, 15, 15, 30, 30])
        if self.random.random() < 0.3:
            self.params[name] = ()
        params = self.params[name]
        ahead = []
        if "m" not in params and self.random.random() < 0.8:
            other = self.random.choice(list(self.params))
            ahead.append(("make", "m", other, self.things(other)))
        body = self.body(0, False, self.random.choice([2, 4, 6, 8]))
        if self.random.random() < 0.5:
            body = (("try", body, "a", (("give", "b", ("box", "a")),), ()), *self.body(0, False))
        return name, (*ahead, *body)

    def book(self):
        bodies = [self.function(name) for name in self.params]
        return Book([Function(name, self.params[name], fitted(body, self.params)) for name, body in bodies])


def fitted(body, params):
    """The same body, but with as many things in each make as the function now has params."""
    def fit(part):
        if type(part) is not tuple:
            return part
        if len(part) == 4 and part[0] == "make":
            return (*part[:3], part[3][:len(params[part[2]])])
        return tuple(fit(each) for each in part)
    return fit(body)


def chance_book(seed):
    """A book."""
    return Writer(seed).book()


def chance_deeds(seed, many):
    """Deeds: a way, and numbers by which is chosen among what is there then."""
    chance = random.Random(-seed - 1)
    ways = ["begin"] * 2 + ["ask"] * 6 + ["toss", "toss", "close"]
    return [(chance.choice(ways), chance.randrange(10 ** 6), chance.randrange(10 ** 6)) for _ in range(many)]


def chosen_worth(number, many, is_maker):
    """A worth, of so many makers."""
    if many > 0 and number % 10 < (9 if is_maker else 1):
        return ("maker", 1 + number // 10 % many)
    return (NUMBERS + [None])[number // 10 % 6]


def chosen(deed, book, plain):
    """The deed, as it is done with the makers that are there, mostly with one that isn't over."""
    way, one, other = deed
    many = len(plain)
    if way == "begin" or many == 0:
        function = book.functions[one % len(book.functions)]
        params = enumerate(function.params)
        things = [chosen_worth(other // (at + 1), many, param in MAKER_BOXES) for at, param in params]
        return ("begin", function.name, things)
    numbers = [number for number in range(1, many + 1) if plain.state(number) != "over"]
    if len(numbers) == 0 or other % 20 == 0:
        numbers = list(range(1, many + 1))
    number = numbers[one % len(numbers)]
    if way == "ask":
        return (way, number, chosen_worth(other // 20, many, False))
    if way == "toss":
        return (way, number, FAULTS[other // 20 % len(FAULTS)])
    return (way, number)
