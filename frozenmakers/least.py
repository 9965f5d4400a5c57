"""Rows that are alike, and tables of as few rows as may be."""

from frozenmakers.errors import NoRow
from frozenmakers.steps import bare, renumbered, steps_from
from frozenmakers.tables import Table, is_row_number

WORDS = ("to", "yes", "no", "over", "land", "close")


def _goes_on(table, number):
    """For the words of the steps from a row, in their order, the rows they lead to."""
    return {word: target for word, target, _ in steps_from(table, number)}


def _itself(table, number):
    """What a row is in itself, be the rows to which it leads as they may."""
    landing = None
    for word, _, box in steps_from(table, number):
        if word == "land":
            landing = box
    # The words of the steps tell whether it lands, and whether it closes. A text, for it is the key of a dict, and
    # tuples may stand deeper than keys may.
    return repr((bare(table.rows[number]), list(_goes_on(table, number)), landing))


def _look_at_rows(one, i, other, j):
    if not is_row_number(i, len(one.rows)):
        raise NoRow(i)
    if not is_row_number(j, len(other.rows)):
        raise NoRow(j)


def _are_unlike(one, i, other, j):
    """Whether two rows are unlike in themselves."""
    return _itself(one, i) != _itself(other, j)


class Merging:
    """Numbers that have been taken for alike, those that are so by way of others too."""

    def __init__(self, many):
        self._heads = list(range(many))

    def head_of(self, number):
        """The same number of all that are taken for alike."""
        while self._heads[number] != number:
            # Halves the chain, so that chains stay short.
            self._heads[number] = self._heads[self._heads[number]]
            number = self._heads[number]
        return number

    def merge(self, one, other):
        """Takes two for alike; tells whether they were not so before."""
        head, other_head = self.head_of(one), self.head_of(other)
        self._heads[head] = other_head
        return head != other_head


def _path_to(pair, came):
    """The words by which the pair was come to."""
    words = []
    while came[pair] is not None:
        pair, word = came[pair]
        words.append(word)
    return words[::-1]


def alike(one, i, other, j):
    """None where two rows are alike, else the shortest path to rows unlike in themselves, the least of these."""
    _look_at_rows(one, i, other, j)
    merging = Merging(len(one.rows) + len(other.rows))
    merging.merge(i, len(one.rows) + j)
    came = {(i, j): None}
    layer = [(i, j)]
    while layer:
        following = []
        for pair in layer:
            if _are_unlike(one, pair[0], other, pair[1]):
                return _path_to(pair, came)
            others = _goes_on(other, pair[1])
            for word, target in _goes_on(one, pair[0]).items():
                # Of rows already taken for alike nothing new comes: if they aren't, a pair met ahead of this one,
                # by a path that is shorter or less, leads to rows that are unlike.
                if merging.merge(target, len(one.rows) + others[word]):
                    came[(target, others[word])] = (pair, word)
                    following.append((target, others[word]))
        layer = following
    return None


def shows_apart(one, i, other, j, thing):
    """Whether a thing of any kind is a path by which two rows lead to such as are unlike in themselves."""
    _look_at_rows(one, i, other, j)
    if type(thing) not in (list, tuple):
        return False
    for word in thing:
        steps, others = _goes_on(one, i), _goes_on(other, j)
        if type(word) is not str or word not in steps or word not in others:
            return False
        i, j = steps[word], others[word]
    return _are_unlike(one, i, other, j)


class Parting:
    """The rows of a table in groups, parted till the rows of each are alike."""

    def __init__(self, table):
        found = {}
        # The rows from which a step by a word leads to a row.
        self._sources = {}
        for number in range(len(table.rows)):
            members = found.setdefault(_itself(table, number), {})
            members[number] = True
            for word, target in _goes_on(table, number).items():
                self._sources.setdefault((word, target), []).append(number)
        self.group_of = [0] * len(table.rows)
        self._groups = []
        # The groups by which others are still to be parted.
        self._waiting = []
        for members in found.values():
            self._take_in(members)
        while self._waiting:
            self._part_by(list(self._groups[self._waiting.pop()]))

    def _take_in(self, members):
        """Makes these rows a group."""
        for number in members:
            self.group_of[number] = len(self._groups)
        self._waiting.append(len(self._groups))
        self._groups.append(members)

    def _part_by(self, targets):
        """Parts each group of which some rows lead to one of these by a word, and others don't."""
        for word in WORDS:
            movers = {}
            for target in targets:
                for number in self._sources.get((word, target), []):
                    members = movers.setdefault(self.group_of[number], {})
                    members[number] = True
            for group, members in movers.items():
                if len(members) < len(self._groups[group]):
                    self._split(group, members)

    def _split(self, group, members):
        """Makes these rows and the rest of their group two groups."""
        for number in members:
            del self._groups[group][number]
        # By the smaller one the others are parted anew: what parts by it and by both parts by the other one, too.
        if len(members) <= len(self._groups[group]):
            self._take_in(members)
        else:
            rest = self._groups[group]
            self._groups[group] = members
            self._take_in(rest)


def _met(table, group_of):
    """A row of each group that some way from row 0 comes to, as they are met."""
    order = [0]
    known = {group_of[0]: True}
    at = 0
    while at < len(order):
        number = order[at]
        for target in _goes_on(table, number).values():
            if group_of[target] not in known:
                known[group_of[target]] = True
                order.append(target)
        at += 1
    return order


def least(table):
    """The table of as few rows as may be, its row 0 alike that of this one."""
    group_of = Parting(table).group_of
    order = _met(table, group_of)
    numbers = {group_of[number]: at for at, number in enumerate(order)}
    renamed = {number: numbers[group] for number, group in enumerate(group_of) if group in numbers}
    rows = []
    lands = {}
    closes = {}
    for at, number in enumerate(order):
        rows.append(renumbered(table.rows[number], renamed))
        if number in table.lands:
            target, box = table.lands[number]
            lands[at] = (renamed[target], box)
        if number in table.closes:
            closes[at] = renamed[table.closes[number]]
    return Table(table.name, table.params, rows, lands=lands, closes=closes)
