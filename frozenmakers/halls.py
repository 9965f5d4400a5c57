"""Several houses, among which makers are handed over by a post, and which may fall."""

from frozenmakers.books import Book
from frozenmakers.errors import NoFall, NoHouse, NoPost
from frozenmakers.frozen import freeze, thaw
from frozenmakers.logs import again
from frozenmakers.machine import House
from frozenmakers.making import made
from frozenmakers.posts import Post

MOST_HOUSES = 4

# The first words of the rows that a log has of what is done by the post.
HANDING_OVER = ("freeze", "thaw")


class Ruin:
    """What is left of a house that has fallen."""

    def __init__(self, rows, numbers):
        # Its log, and the numbers of its makers where it will rise.
        self.rows = rows
        self.numbers = numbers


def _numbers_of(house):
    """The numbers of a house's makers, rising."""
    return sorted(list(house.run.makers))


class Hall:
    """Houses of a book, by made tables, and a post."""

    def __init__(self, book, many=2):
        if type(many) is not int or not 1 <= many <= MOST_HOUSES:
            raise NoHouse(many)
        # A book of its own: by it a house is begun anew that rises.
        self._book = Book(book.functions)
        self._tables = {function.name: made(function) for function in self._book.functions}
        self._many = many
        # The houses that are up, and what is left of the others, by their numbers.
        self._houses = {number: House(self._book, tables=self._tables) for number in range(many)}
        self._ruins = {}
        self._post = Post(many)

    def _look_at(self, house):
        if type(house) is not int or not 0 <= house < self._many:
            raise NoHouse(house)

    def _house_up(self, house):
        """The house of that number, which must be up."""
        self._look_at(house)
        if house not in self._houses:
            raise NoHouse(house)
        return self._houses[house]

    def begin(self, house, name, things=()):
        """As a house's."""
        return self._house_up(house).begin(name, things)

    def ask(self, house, k, worth=None):
        """As a house's."""
        return self._house_up(house).ask(k, worth)

    def toss(self, house, k, number):
        """As a house's."""
        return self._house_up(house).toss(k, number)

    def close(self, house, k):
        """As a house's."""
        return self._house_up(house).close(k)

    def said(self, house):
        """As a house's."""
        return self._house_up(house).said()

    def state(self, house, k):
        """As a house's."""
        return self._house_up(house).state(k)

    def send(self, house, k, to):
        """Lays a maker of a house, frozen with all that it holds, at the post for a house; tells how many makers."""
        sender = self._house_up(house)
        self._look_at(to)
        many = len(sender)
        freeze(sender, k)
        self._post.lay(house, to, sender.deeds[-1])
        return many - len(sender)

    def take(self, house):
        """Thaws in a house the first text that is laid for it; tells the numbers of its makers."""
        taker = self._house_up(house)
        letter = self._post.first_for(house)
        if letter is None:
            raise NoPost(house)
        numbers = thaw(taker, letter.text)
        self._post.hand_over(house, letter, taker.deeds[-1])
        return numbers

    def fall(self, house, *, undone=0):
        """Lets a house fall; amid its last sending or taking where undone is 1, or 2: then that never was."""
        fallen = self._house_up(house)
        rows = fallen.log()
        if type(undone) is not int or undone not in (0, 1, 2):
            raise NoFall("undone is 0, 1 or 2")
        if undone > 0 and (len(rows) == 0 or rows[-1][0] not in HANDING_OVER):
            raise NoFall("its last deed is no sending or taking")
        if undone == 2 and not self._post.can_undo(house):
            raise NoFall("what it sent was taken")
        if undone > 0:
            rows.pop()
        if undone == 2:
            self._post.undo(house)
            fallen = again(rows, self._book, tables=self._tables)
        self._ruins[house] = Ruin(rows, _numbers_of(fallen))
        del self._houses[house]

    def rise(self, house):
        """Begins a house anew, from its log and from what the post knows of it."""
        self._look_at(house)
        if house in self._houses:
            raise NoHouse(house)
        rows = self._ruins[house].rows
        noted = len([row for row in rows if row[0] in HANDING_OVER])
        lacking = self._post.rows_of(house)[noted:]
        self._houses[house] = again([*rows, *lacking], self._book, tables=self._tables)
        del self._ruins[house]

    def post(self):
        """The texts at the post, each behind the house for which it is laid, as they lie."""
        return self._post.lying()

    def where(self):
        """The numbers of the makers of each house, rising."""
        found = []
        for house in range(self._many):
            if house in self._houses:
                found.append(_numbers_of(self._houses[house]))
            else:
                found.append(list(self._ruins[house].numbers))
        return found

    def log(self, house):
        """The log of a house, be it up or not."""
        self._look_at(house)
        if house in self._houses:
            return self._houses[house].log()
        return list(self._ruins[house].rows)
