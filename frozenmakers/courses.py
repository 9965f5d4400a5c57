"""What is alive at the places of a function."""

from frozenmakers.levels import beginning, reads_of, steps_of


def _all_steps(first):
    """The steps of each place to which some way from the first one comes."""
    found = {}
    waiting = [first]
    while waiting:
        place = waiting.pop()
        if place not in found:
            found[place] = steps_of(place)
            waiting.extend([target for target, _ in found[place]])
    return found


def _behind(steps, alive):
    """The boxes alive behind steps, as a dict."""
    found = {}
    for target, box in steps:
        for name in alive[target]:
            if name != box:
                found[name] = True
    return found


def _all_alive(all_steps):
    """The boxes alive at each place, as dicts."""
    alive = {}
    for place in all_steps:
        alive[place] = {name: True for name in reads_of(place)}
    # What is alive at a place grows by what is alive behind it, till nothing grows any more.
    places = list(all_steps)[::-1]
    is_growing = True
    while is_growing:
        is_growing = False
        for place in places:
            many = len(alive[place])
            alive[place].update(_behind(all_steps[place], alive))
            is_growing = is_growing or len(alive[place]) > many
    return alive


class Course:
    """A function as plain runs go through it."""

    def __init__(self, function):
        self.params = function.params
        self.first = beginning(function)
        self._steps = None
        self._alive_boxes = None

    def _look(self):
        if self._alive_boxes is None:
            self._steps = _all_steps(self.first)
            self._alive_boxes = _all_alive(self._steps)

    def alive_when_new(self):
        """The boxes that are alive where a new maker begins, rising."""
        self._look()
        return sorted(self._alive_boxes[self.first])

    def alive_behind(self, place):
        """The boxes that are alive where a maker stands at this place, rising: what it has read there is behind it."""
        self._look()
        return sorted(_behind(self._steps[place], self._alive_boxes))
