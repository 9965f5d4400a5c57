"""What is alive at the rows of tables."""

from frozenmakers.errors import NoRow, NoWay
from frozenmakers.steps import reads_of_row, steps_from
from frozenmakers.tables import STANDING, is_box, is_row_number


def _readers(table):
    """For each box that is read the rows that read it."""
    found = {}
    for number, row in enumerate(table.rows):
        for box in reads_of_row(row):
            found.setdefault(box, []).append(number)
    return found


def _steps_back(table):
    """For each row the steps that lead to it: the row from which, and the box that is set on it or None."""
    found = [[] for _ in table.rows]
    for number in range(len(table.rows)):
        for _, target, box in steps_from(table, number):
            found[target].append((number, box))
    return found


def _distances(box, readers, steps_back):
    """The rows at which a box is alive, each with how many steps lead to the nearest row that reads it."""
    found = {number: 0 for number in readers}
    layer = list(found)
    far = 0
    while layer:
        far += 1
        ahead = []
        for number in layer:
            ahead.extend([source for source, setting in steps_back[number] if setting != box])
        layer = []
        for number in ahead:
            if number not in found:
                found[number] = far
                layer.append(number)
    return found


def alive(table):
    """The boxes that are alive at each row, row by row."""
    readers = _readers(table)
    steps_back = _steps_back(table)
    found = [[] for _ in table.rows]
    for box in sorted(readers):
        for number in _distances(box, readers[box], steps_back):
            found[number].append(box)
    return [tuple(boxes) for boxes in found]


def alive_behind(table, number, alive_boxes):
    """The boxes that are alive behind a row, rising, alive_boxes telling what is alive at each."""
    found = {}
    for _, target, box in steps_from(table, number):
        for name in alive_boxes[target]:
            if name != box:
                found[name] = True
    return tuple(sorted(found))


def kept(table, number):
    """The boxes that a maker which stands at the row keeps, rising."""
    if not is_row_number(number, len(table.rows)) or table.rows[number][0] not in STANDING:
        raise NoRow(number)
    return alive_behind(table, number, alive(table))


def _look_at_row(table, number):
    if not is_row_number(number, len(table.rows)):
        raise NoRow(number)


def _targets(table, number, box):
    """The rows to which some step leads that doesn't set the box."""
    return [target for _, target, setting in steps_from(table, number) if setting != box]


def read_way(table, number, box):
    """The shortest way from a row to one that reads the box, no step ahead setting it."""
    _look_at_row(table, number)
    readers = _readers(table)
    if type(box) is not str or box not in readers:
        raise NoWay("no row reads it")
    distances = _distances(box, readers[box], _steps_back(table))
    if number not in distances:
        raise NoWay("no way to a row that reads it")
    way = [number]
    for far in reversed(range(distances[number])):
        way.append(min([target for target in _targets(table, way[-1], box) if distances.get(target) == far]))
    return way


def shows_alive(table, number, box, thing):
    """Whether a thing of any kind is a way from the row to one that reads the box, no step ahead setting it."""
    _look_at_row(table, number)
    if type(box) is not str or type(thing) not in (list, tuple) or len(thing) == 0:
        return False
    if not all([is_row_number(each, len(table.rows)) for each in thing]) or thing[0] != number:
        return False
    for at in range(len(thing) - 1):
        if thing[at + 1] not in _targets(table, thing[at], box):
            return False
    return box in reads_of_row(table.rows[thing[-1]])


def _are_unlike_boxes(thing):
    if type(thing) is not tuple or not all([is_box(each) for each in thing]):
        return False
    return len(set(thing)) == len(thing)


def is_closed(table, thing):
    """Whether a thing of any kind tells boxes of each row, among them all that is read there or behind it."""
    if type(thing) not in (list, tuple) or len(thing) != len(table.rows):
        return False
    if not all([_are_unlike_boxes(boxes) for boxes in thing]):
        return False
    for number, row in enumerate(table.rows):
        needed = [*reads_of_row(row), *alive_behind(table, number, thing)]
        if not all([box in thing[number] for box in needed]):
            return False
    return True
