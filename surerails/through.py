"""Whether all events of a working can happen under a safe rule."""

from surerails.rings import find_ring
from surerails.runs import all_lags
from surerails.workings import bounded_chain
from surerails.worlds import World


def deaf_demands(working):
    """Lists a pair (act, event) for each demand of which no letter surely tells, ascending."""
    ways = all_lags(working.line, True)
    return [
        (act, event)
        for act in range(working.size)
        for event, _ in working.demands(act)
        if not _is_heard(working, ways, act, event)
    ]


def gets_through(working):
    """Tells whether all events happen under the freest rule if all that may come does."""
    return find_ring(working) is None and not deaf_demands(working)


def stuck_world(working):
    """Gives the world in which no act with a deaf demand happens under a safe rule, and no event of a ring."""
    links = [working.cause(event) for event in range(working.size)]
    whims = [0 if link is None else link[1] for link in links]
    lates = [[high] for _, _, _, high in working.line.wires()]
    return World(working, [0 for _ in range(working.line.size)], whims, lates)


def _is_heard(working, ways, act, event):
    """Tells whether a sure way leads to the act from the event or from an ancestor that draws it."""
    chain = bounded_chain(working, event)
    return any([(working.box_of(ancestor), working.box_of(act)) in ways for ancestor, _ in chain])
