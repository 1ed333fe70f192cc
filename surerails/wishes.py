"""Quicker wires: the least number of hours to be saved so that all wishes are met."""

from surerails.clocks import spread
from surerails.errors import BadHigh, BadWish, CannotQuicken, NoStretch
from surerails.lines import Line, check_box


def quicken(line, wishes):
    """Gives the least hours to be saved, the lesser highs with which all wishes are met, and walks that show it."""
    for index, (source, target, hours) in enumerate(wishes):
        _check_wish(line, index, source, target, hours)
    saved, highs, walks = 0, [], []
    for east in (True, False):
        wires = _wires_to_save(line, wishes, east)
        ways = _ways_by_point(line, wishes, wires, east)
        saved -= ways[line.size - 1][0]
        highs.extend(_new_highs(wires, ways))
        walks.append([bound[3] for bound in ways[line.size - 1][1]])
    return (saved, sorted(highs), (walks[0], walks[1]))


def quickened(line, highs):
    """Gives the line in which the listed wires have new highs."""
    spans = {(source, target): (low, high) for source, target, low, high in line.wires()}
    for source, target, new in highs:
        # The line raises the errors of a wire that is none.
        line.wire(source, target)
        low, high = spans[source, target]
        if new < low or (high is not None and new > high):
            raise BadHigh(source, target)
        spans[source, target] = (low, new)
    wires = [(source, target, low, high) for (source, target), (low, high) in spans.items()]
    return Line(line.size, wires, bounds=line.bounds())


def _check_wish(line, index, source, target, hours):
    check_box(line, source)
    check_box(line, target)
    if source == target or hours < 0:
        raise BadWish(index)
    for here, there in _stretch(source, target):
        if there not in line.targets(here) or line.wire(here, there)[1] is None:
            raise NoStretch(here, there)


def _stretch(source, target):
    """Lists the pairs of neighbours on the straight way."""
    step = 1 if source < target else -1
    return [(box, box + step) for box in range(source, target, step)]


def _wires_to_save(line, wishes, east):
    """Gives for each lesser box the wire (source, target, low, high) on the straight way of some wish."""
    wires = {}
    for source, target, _ in wishes:
        if (source < target) == east:
            for here, there in _stretch(source, target):
                low, high = line.wire(here, there)
                wires[min(here, there)] = (here, there, low, high)
    return wires


def _ways_by_point(line, wishes, wires, east):
    """Gives for each point the negative of the hours to be saved before it, with the way of steps that shows it.

    Each step is a bound for these negative numbers, whose reason is the step itself.
    """
    bounds = [(box + 1, box, 0, ("keep", box)) for box in range(line.size - 1)]
    for box, (_, _, low, high) in wires.items():
        bounds.append((box, box + 1, high - low, ("cap", box)))
    for index, (source, target, hours) in enumerate(wishes):
        if (source < target) == east:
            begin, end = min(source, target), max(source, target)
            present = sum([wires[box][3] for box in range(begin, end)])
            bounds.append((end, begin, hours - present, ("wish", index)))
    ways, ring = spread(bounds, [0])
    if ring is not None:
        raise CannotQuicken(east, [bound[3] for bound in ring])
    return ways


def _new_highs(wires, ways):
    """Lists the wires that get a lesser high, with this high."""
    saved = {box: ways[box][0] - ways[box + 1][0] for box in wires}
    return [
        (source, target, high - saved[box]) for box, (source, target, _, high) in wires.items() if saved[box] > 0
    ]
