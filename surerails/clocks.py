"""What the bounds of a record say together: the ways of bounds, and the settings that they leave."""

from surerails.bounds import gathered_bounds
from surerails.errors import Impossible


class Clocks:
    """The tightest bounds of a record.

    The attributes are size, the number of boxes; tight, a tuple with the tightest bound of each two boxes; and
    ring, a bad ring as a tuple of bounds, or None if the record is possible.
    """

    def __init__(self, record):
        self.size = record.line.size
        self.tight = tuple(_tightest(gathered_bounds(record)))
        self.ring = spread(self.tight, list(range(self.size)))[1]
        self._reached = {}

    def reached(self, box):
        """Gives for each box that a way of bounds reaches from the box the pair (hours, way) of a shortest one.

        The record is possible.
        """
        if box not in self._reached:
            self._reached[box] = spread(self.tight, [box])[0]
        return self._reached[box]

    def hours(self, first, second):
        """Gives the greatest value of the second setting minus the first, or None."""
        if second not in self.reached(first):
            return None
        return self.reached(first)[second][0]


def checked_clocks(record):
    """Gives the clocks of a record; raises Impossible if it is not possible."""
    clocks = Clocks(record)
    if clocks.ring is not None:
        raise Impossible(list(clocks.ring))
    return clocks


def spread(bounds, starts):
    """Follows the bounds from the starts as long as they lead to lesser hours.

    Gives a pair: for each box that is reached the hours and the way, as a tuple of bounds, and a bad ring of the
    bounds, or None.
    """
    ways = {box: (0, ()) for box in starts}
    grown = True
    while grown:
        grown = False
        for bound in bounds:
            later, earlier, most, _ = bound
            if earlier in ways and (later not in ways or ways[earlier][0] + most < ways[later][0]):
                way = ways[earlier][1] + (bound,)
                passed = [step[1] for step in way]
                if later in passed:
                    # The way has come back to a box with less hours than it had there before.
                    return (ways, way[passed.index(later):])
                ways[later] = (ways[earlier][0] + most, way)
                grown = True
    return (ways, None)


def some_settings(bounds, size):
    """Lists settings that keep the bounds, which have no bad ring."""
    ways = spread(bounds, list(range(size)))[0]
    return [ways[box][0] for box in range(size)]


def latest_settings(bounds, size, box, far):
    """Lists the greatest settings that keep the bounds while that of the box is 0; unbounded ones are at least far."""
    ways = spread(bounds, [box])[0]
    others = some_settings(bounds, size)
    # What no way reaches may be put off together, so far that it keeps the bounds towards what is reached.
    least = [far - others[other] for other in range(size) if other not in ways]
    for later, earlier, most, _ in bounds:
        if later in ways and earlier not in ways:
            least.append(ways[later][0] - most - others[earlier])
    later_by = max(least, default=0)
    return [ways[other][0] if other in ways else others[other] + later_by for other in range(size)]


def earliest_settings(bounds, size, box, far):
    """Lists the least settings that keep the bounds while that of the box is 0; unbounded ones are at most far."""
    mirrored = [(earlier, later, most, reason) for later, earlier, most, reason in bounds]
    return [-setting for setting in latest_settings(mirrored, size, box, -far)]


def _tightest(bounds):
    """Lists for each two boxes a bound with the least number."""
    tight = {}
    for bound in bounds:
        pair = (bound[0], bound[1])
        if pair not in tight or bound[2] < tight[pair][2]:
            tight[pair] = bound
    return list(tight.values())
