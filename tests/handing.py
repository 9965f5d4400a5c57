"""Makers of a plain run, and the same ones wherever they have come to: in one of several houses, or in a text."""

import random

from chance import FAULTS, MAKER_BOXES, NUMBERS
from frozenmakers.errors import NoFall, Shared, TooLong
from frozenmakers.frozen import freeze, thaw
from frozenmakers.plain import Plain
from samples import refused


class Letter:
    """A text, with the plain numbers of the makers in it."""

    def __init__(self, to, text, order, was):
        self.to = to
        self.text = text
        self.order = order
        self.was = was


class Parallel:
    """Does what is done in a plain run in houses, too; all is told alike but for the makers' numbers."""

    def __init__(self, case, whole, many, seed, most=150):
        self.case = case
        self.book = whole
        self.plain = Plain(whole, most=most)
        self.many = many
        self.random = random.Random(seed)
        # For each maker of the plain run its house and number there, or the letter in which it is.
        self.spots = {}
        self.said = [0] * many
        # The houses that are up.
        self.up = list(range(many))

    def in_house(self, house):
        """The makers of a house, by their numbers there."""
        found = {spot[1]: p for p, spot in self.spots.items() if type(spot) is tuple and spot[0] == house}
        return dict(sorted(found.items()))

    def moved(self, worth, house):
        """What a worth of a house is in the plain run."""
        return ("maker", self.in_house(house)[worth[1]]) if type(worth) is tuple else worth

    def worth(self, house, is_maker):
        """A worth, as it is in the plain run and in the house."""
        there = self.in_house(house)
        if there and self.random.random() < (0.9 if is_maker else 0.15):
            k = self.random.choice(list(there))
            return ("maker", there[k]), ("maker", k)
        worth = self.random.choice(NUMBERS + [None])
        return worth, worth

    def look(self, house, said):
        """Takes in new makers of a house, and looks at what was said there and in the plain run."""
        new = [k for k in self.numbers(house) if k not in self.in_house(house)]
        first = len(self.spots) + 1
        self.case.assertEqual(len(self.plain) + 1 - first, len(new))
        for at, k in enumerate(new):
            self.spots[first + at] = (house, k)
        heard = self.heard(house)[self.said[house]:]
        self.said[house] += len(heard)
        self.case.assertEqual(self.plain.said()[said:], [(self.in_house(house)[k], self.moved(worth, house)) for k, worth in heard])
        for number in range(self.many):
            if number in self.up:
                self.look_at_makers(number)

    def look_at_makers(self, house):
        for k, p in self.in_house(house).items():
            self.case.assertEqual(self.plain.state(p), self.state(house, k))

    def begin(self):
        house = self.random.choice(self.up)
        function = self.random.choice(self.book.functions)
        pairs = [self.worth(house, param in MAKER_BOXES) for param in function.params]
        said = len(self.plain.said())
        self.plain.begin(function.name, [one for one, _ in pairs])
        self.begin_there(house, function.name, [other for _, other in pairs])
        self.look(house, said)

    def ask(self):
        found = [(p, spot) for p, spot in self.spots.items() if type(spot) is tuple and spot[0] in self.up]
        lively = [each for each in found if self.plain.state(each[0]) != "over"]
        found = lively if lively and self.random.random() < 0.95 else found
        if not found:
            return
        p, (house, k) = self.random.choice(found)
        said = len(self.plain.said())
        way = self.random.choice(["ask"] * 6 + ["toss", "close"])
        one = other = ()
        if way == "ask":
            one, other = [(worth,) for worth in self.worth(house, False)]
        elif way == "toss":
            one = other = (self.random.choice(FAULTS),)
        try:
            told = getattr(self.plain, way)(p, *one)
        except TooLong:
            return
        there = self.deed(way, house, k, *other)
        new = [each for each in self.numbers(house) if each not in self.in_house(house)]
        moved = {**self.in_house(house), **{each: len(self.spots) + 1 + at for at, each in enumerate(new)}}
        there = tuple(("maker", moved[each[1]]) if type(each) is tuple else each for each in there)
        self.case.assertEqual(told, there)
        self.look(house, said)

    def leaving(self, p):
        """What would be frozen with a maker, as all are met, and the first that is held by another one, or None."""
        order = [p]
        for each in order:
            order.extend(other for other in self.plain.held(each) if other not in order)
        house = self.spots[p][0]
        held = set()
        for other in self.in_house(house).values():
            if other not in order:
                held.update(self.plain.held(other))
        return order, next((each for each in order if each in held), None)

    def freeze(self):
        """Freezes a maker, if it can be."""
        found = [p for p, spot in self.spots.items() if type(spot) is tuple and spot[0] in self.up]
        if not found:
            return None
        p = self.random.choice(found)
        house, k = self.spots[p]
        order, shared = self.leaving(p)
        to = self.random.randrange(self.many)
        if shared is not None:
            refused(self.case, Shared, lambda: self.freeze_there(house, k, to, order), number=self.spots[shared][1])
            return None
        text = self.freeze_there(house, k, to, order)
        letter = Letter(to, text, order, [self.spots[each] for each in order])
        for each in order:
            self.spots[each] = letter
        return house, letter

    def take_in(self, house, letter, numbers):
        """Takes in what was thawed of a letter."""
        for p, k in zip(letter.order, numbers, strict=True):
            self.spots[p] = (house, k)
        self.look(house, len(self.plain.said()))


class Houses(Parallel):
    """In houses, from which makers are frozen and thawed elsewhere."""

    def __init__(self, case, whole, houses, seed, most=150):
        Parallel.__init__(self, case, whole, len(houses), seed, most)
        self.houses = houses
        self.letters = []

    def numbers(self, house):
        return sorted(self.houses[house].run.makers)

    def heard(self, house):
        return self.houses[house].said()

    def state(self, house, k):
        return self.houses[house].state(k)

    def begin_there(self, house, name, things):
        return self.houses[house].begin(name, things)

    def deed(self, way, house, *rest):
        return getattr(self.houses[house], way)(*rest)

    def look_at_makers(self, house):
        there = self.in_house(house)
        one = self.houses[house]
        self.case.assertEqual(list(there), self.numbers(house))
        self.case.assertEqual(len(there), len(one))
        for k, p in there.items():
            self.case.assertEqual(self.plain.state(p), one.state(k))
            self.case.assertEqual(self.plain.alive(p), tuple(box for box in one.boxes(k) if box.isalpha()))
            self.case.assertEqual(self.plain.held(p), [there[held] for held in one.held(k)])

    def freeze_there(self, house, k, to, order):
        return freeze(self.houses[house], k)

    def freeze_and_hold(self):
        done = self.freeze()
        if done is not None:
            self.letters.append(done[1])

    def thaw(self):
        """Thaws one of the texts in some house; frozen at once again it is the very text."""
        if not self.letters:
            return
        letter = self.letters.pop(self.random.randrange(len(self.letters)))
        house = self.random.randrange(self.many)
        numbers = thaw(self.houses[house], letter.text)
        self.case.assertEqual(letter.text, freeze(self.houses[house], numbers[0]))
        self.take_in(house, letter, thaw(self.houses[house], letter.text))


class Halls(Parallel):
    """In the houses of a hall, of which some fall and rise."""

    def __init__(self, case, whole, hall, many, seed, most=150):
        Parallel.__init__(self, case, whole, many, seed, most)
        self.hall = hall
        self.letters = []
        # For each house what it has done at the post: "send" or "take" and the letter.
        self.records = [[] for _ in range(many)]
        self.lacking = [False] * many
        # All texts that ever were laid, in order; and of each fall what was undone.
        self.laid = []
        self.falls = []

    def numbers(self, house):
        return self.hall.where()[house]

    def heard(self, house):
        return self.hall.said(house)

    def state(self, house, k):
        return self.hall.state(house, k)

    def begin_there(self, house, name, things):
        return self.hall.begin(house, name, things)

    def deed(self, way, house, *rest):
        return getattr(self.hall, way)(house, *rest)

    def freeze_there(self, house, k, to, order):
        self.case.assertEqual(len(order), self.hall.send(house, k, to))
        return self.hall.log(house)[-1][-1]

    def send(self):
        done = self.freeze()
        if done is not None:
            house, letter = done
            self.letters.append(letter)
            self.laid.append(letter)
            self.records[house].append(("send", letter))
        self.look_at_all()

    def take(self):
        house = self.random.choice(self.up) if self.up else 0
        found = [letter for letter in self.letters if letter.to == house]
        if house in self.up and found:
            self.letters.remove(found[0])
            self.take_in(house, found[0], self.hall.take(house))
            self.records[house].append(("take", found[0]))
        self.look_at_all()

    def fall(self):
        if not self.up:
            return
        house = self.random.choice(self.up)
        log = self.hall.log(house)
        undone = self.random.choice([0, 1, 2, 2])
        is_handing = len(log) > 0 and log[-1][0] in ("freeze", "thaw")
        can_be = undone == 0 or is_handing
        if undone == 2 and is_handing:
            word, letter = self.records[house][-1]
            can_be = word == "take" or letter in self.letters
        if not can_be:
            ahead = self.whole()
            refused(self.case, NoFall, lambda: self.hall.fall(house, undone=undone))
            self.case.assertEqual(ahead, self.whole())
            return
        self.case.assertIsNone(self.hall.fall(house, undone=undone))
        self.up.remove(house)
        self.falls.append((undone, self.records[house][-1][0] if undone else ""))
        self.lacking[house] = undone == 1
        self.case.assertEqual(log[:-1] if undone else log, self.hall.log(house))
        if undone == 2:
            self.undo(house, *self.records[house].pop())
        self.look_at_all()

    def undo(self, house, word, letter):
        if word == "send":
            self.letters.remove(letter)
            self.spots.update(zip(letter.order, letter.was))
        else:
            # It lies again where it lay: ahead of all that were laid later.
            self.letters.append(letter)
            self.letters.sort(key=lambda each: self.laid.index(each))
            self.spots.update(dict.fromkeys(letter.order, letter))

    def rise(self):
        down = [house for house in range(self.many) if house not in self.up]
        if not down:
            return
        house = self.random.choice(down)
        ahead = self.hall.log(house)
        self.case.assertIsNone(self.hall.rise(house))
        self.up.append(house)
        log = self.hall.log(house)
        self.case.assertEqual(ahead, log[:-1] if self.lacking[house] else log)
        if self.lacking[house]:
            self.case.assertEqual({"send": "freeze", "take": "thaw"}[self.records[house][-1][0]], log[-1][0])
        self.look_at_all()

    def whole(self):
        return [self.hall.where(), self.hall.post(), [self.hall.log(house) for house in range(self.many)]]

    def look_at_all(self):
        """Each maker is in one house or in one text."""
        self.case.assertEqual([list(self.in_house(house)) for house in range(self.many)], self.hall.where())
        self.case.assertEqual([(letter.to, letter.text) for letter in self.letters], self.hall.post())
        for house in self.up:
            self.look_at_makers(house)
