"""Makers frozen as text, and thawed."""

from frozenmakers.books import DEEP
from frozenmakers.by_rows import RowMaker
from frozenmakers.checks import look_for
from frozenmakers.errors import NoThaw, NoWay, Pinned, Shared
from frozenmakers.frosts import frosts_of
from frozenmakers.tables import STANDING, is_row_number
from frozenmakers.words import word_of


def _gathered(house, k):
    """The number of a maker, then of all that it holds and so on, as they are met."""
    order = [k]
    known = {k: True}
    at = 0
    while at < len(order):
        holder = order[at]
        for number in house.held(holder):
            if number not in known:
                known[number] = True
                order.append(number)
        at += 1
    return order


def _look_at_leaving(house, order):
    """Looks whether these makers can leave the house."""
    leaving = {number: True for number in order}
    held = {}
    for number in house.run.makers:
        if number not in leaving:
            for inner in house.held(number):
                held[inner] = True
    for number in order:
        if number in house.pins:
            raise Pinned(number)
        if number in held:
            raise Shared(number)


def _word_of(worth, places):
    """How a worth is written, places telling where in the text each maker stands."""
    return word_of(("maker", places[worth[1]]) if type(worth) is tuple else worth)


def _rows_of(maker, places):
    """The rows of a maker."""
    head = f"maker {maker.name} "
    if maker.stage == "over":
        return [head + "over"]
    if maker.stage == "new":
        words = [_word_of(maker.worths.get(param), places) for param in maker.chart.table.params]
        return [head + "new", *[f"thing {word}" for word in words]]
    rows = [head + str(maker.spot)]
    for box, worth in maker.worths.items():
        rows.append(f"box {box} {_word_of(worth, places)}")
    if maker.passing is not None:
        rows.append(f"inner @{places[maker.passing]}")
    return rows


def freeze(house, k):
    """The text of a maker and of all that it holds; they are in the house no more."""
    look_for(house.run.makers, k)
    order = _gathered(house, k)
    _look_at_leaving(house, order)
    places = {number: at for at, number in enumerate(order)}
    rows = [f"frozen {len(order)}"]
    for number in order:
        rows.extend(_rows_of(house.run.makers[number], places))
    for number in order:
        del house.run.makers[number]
    text = "".join([row + "\n" for row in rows])
    house.deeds.append(("freeze", k, text))
    return text


def pin(house, k):
    """Lets a maker not be frozen."""
    look_for(house.run.makers, k)
    if k in house.pins:
        raise Pinned(k)
    house.pins[k] = True
    house.deeds.append(("pin", k))


def unpin(house, k):
    """Lets a maker be frozen again."""
    look_for(house.run.makers, k)
    if k not in house.pins:
        raise NoWay("it isn't pinned")
    del house.pins[k]
    house.deeds.append(("unpin", k))


def _can_be_worth(worth, many):
    """Whether there is a worth as a text of so many makers tells it."""
    if type(worth) is tuple:
        return worth[1] < many
    return type(worth) is str or worth <= DEEP


def _can_be_new(chart, frost):
    params = chart.table.params
    if len(frost.told_worths) != len(params):
        return False
    alive_boxes = chart.alive_when_new()
    return all([worth == "none" or param in alive_boxes for param, worth in zip(params, frost.told_worths)])


def _can_stand(chart, frost, many):
    rows = chart.table.rows
    if not is_row_number(frost.spot, len(rows)) or rows[frost.spot][0] not in STANDING:
        return False
    if tuple(frost.told_boxes) != chart.boxes_kept(frost.spot):
        return False
    if rows[frost.spot][0] == "give":
        return frost.inner_worth is None
    return type(frost.inner_worth) is tuple and _can_be_worth(frost.inner_worth, many)


def _can_be(charts, frost, many):
    """Whether a maker can be as a text of so many makers tells it."""
    if frost.name not in charts or not all([_can_be_worth(worth, many) for worth in frost.told_worths]):
        return False
    if frost.stage == "new":
        return _can_be_new(charts[frost.name], frost)
    return frost.stage == "over" or _can_stand(charts[frost.name], frost, many)


def _worth_there(worth, numbers):
    """The worth that a text tells, numbers being those of its makers."""
    if type(worth) is tuple:
        return ("maker", numbers[worth[1]])
    return None if worth == "none" else worth


def _thawed(chart, number, frost, numbers):
    """The maker of that number."""
    worths = [_worth_there(worth, numbers) for worth in frost.told_worths]
    if frost.stage == "new":
        maker = RowMaker(number, chart, dict(zip(chart.table.params, worths)), 0)
        maker.keep(chart.alive_when_new())
        return maker
    passing = None if frost.inner_worth is None else numbers[frost.inner_worth[1]]
    return RowMaker(number, chart, dict(zip(frost.told_boxes, worths)), frost.spot, frost.stage, passing)


def thaw(house, text):
    """The numbers of new makers as a frozen text tells of them, of anything."""
    frosts = frosts_of(text)
    charts = house.run.charts
    for at, frost in enumerate(frosts):
        if not _can_be(charts, frost, len(frosts)):
            raise NoThaw(at)
    numbers = [house.run.last + 1 + at for at in range(len(frosts))]
    for number, frost in zip(numbers, frosts):
        house.run.take_in(_thawed(charts[frost.name], number, frost, numbers))
    house.deeds.append(("thaw", text, tuple(numbers)))
    return numbers
