"""Which demands of a working are needed, and which follow from the others."""

from surerails.errors import Ring
from surerails.rings import find_ring, waiting_order
from surerails.workings import Working, check_event, waits_of


def hours_between(working, first, second):
    """Gives the greatest length of a chain from the first event to the second, or None."""
    check_event(working, first)
    check_event(working, second)
    _check_no_ring(working)
    return _lengths_from(working, first, waiting_order(working)).get(second)


def needed_demands(working):
    """Lists a pair (act, event) for each demand that does not follow from others, ascending."""
    _check_no_ring(working)
    order = waiting_order(working)
    lengths = [_lengths_from(working, event, order) for event in range(working.size)]
    return [
        (act, event)
        for act in range(working.size)
        for event, wait in working.demands(act)
        if not _is_spare(working.demands(act), event, wait, lengths[event])
    ]


def thinned(working):
    """Gives the working in which each act has only its needed demands."""
    needed = needed_demands(working)
    rows = []
    for number, row in enumerate(working.events()):
        if row[0] == "act":
            demands = [(event, wait) for event, wait in working.demands(number) if (number, event) in needed]
            rows.append(("act", row[1], demands))
        else:
            rows.append(row)
    return Working(working.line, rows)


def _check_no_ring(working):
    ring = find_ring(working)
    if ring is not None:
        raise Ring(ring)


def _lengths_from(working, first, order):
    """Gives the greatest length of a chain from the first event to each event that has one."""
    lengths = {first: 0}
    for event in order:
        sums = [lengths[other] + hours for other, hours in waits_of(working, event) if other in lengths]
        if sums:
            lengths[event] = max(sums)
    return lengths


def _is_spare(demands, event, wait, lengths):
    """Tells whether another demanded event, itself behind the event, already makes the act wait so long."""
    return any([
        other != event and other in lengths and lengths[other] + hours >= wait for other, hours in demands
    ])
