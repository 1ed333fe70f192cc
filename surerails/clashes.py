"""Whether two trains can be in one place at once, and what is wrong with a record of a plan."""

from surerails.blame import blamed
from surerails.bounds import seen_ancestor
from surerails.clocks import checked_clocks, spread
from surerails.freest import Freest
from surerails.ways import find_bad_ring


def clash(plan, record):
    """Gives the least (place, first, second) for which both trains may hold the place at once, with settings."""
    clocks = checked_clocks(record)
    for place in plan.places():
        for first, second in _pairs(plan.order(place)):
            wish = _overlap(record, plan.stay(place, first), plan.stay(place, second))
            if wish is not None:
                ways, ring = spread(list(clocks.tight) + wish, list(range(clocks.size)))
                if ring is None:
                    return (place, first, second, [ways[box][0] for box in range(clocks.size)])
    return None


def look(plan, record):
    """Gives ("impossible", ring), ("blamed", acts) or ("clear", [])."""
    ring = find_bad_ring(record)
    if ring is not None:
        return ("impossible", ring)
    acts = blamed(record, Freest())
    if acts:
        return ("blamed", acts)
    return ("clear", [])


def _pairs(trains):
    """Lists the pairs of trains, the lesser one first, ascending."""
    return [(first, second) for first in sorted(trains) for second in sorted(trains) if first < second]


def _overlap(record, stay, other):
    """Lists the bounds that hold exactly if both stays last at some hour; None if one of them has not begun.

    This is so if each of them begins before it ends itself, and before the other one ends.
    """
    if record.reading(stay[0]) is None or record.reading(other[0]) is None:
        return None
    begins = [_latest(record, event) for event in (stay[0], other[0])]
    ends = [_latest(record, event) for event in (stay[1], other[1])]
    return [(begin[0], end[0], end[1] - begin[1] - 1, ()) for begin in begins for end in ends if end is not None]


def _latest(record, event):
    """Gives the pair (box, reading) of the moment at which the event comes at the latest, or None if it need not."""
    link = seen_ancestor(record, event)
    if link is None:
        return None
    ancestor, hours = link
    return (record.working.box_of(ancestor), record.reading(ancestor) + hours)
