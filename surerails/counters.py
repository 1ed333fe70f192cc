"""Worlds that show the faults of a table."""

from surerails.checks import check_act
from surerails.errors import NoFault
from surerails.extremes import earliest_hours, extreme_hours
from surerails.margins import is_fault
from surerails.runs import Runs
from surerails.workings import bounded_chain, check_event
from surerails.worlds import World


def counter_world(table, act, event):
    """Gives a world, and the hours after which its drive under the table has broken the demand."""
    working = table.working
    check_act(working, act)
    check_event(working, event)
    waits = dict(working.demands(act))
    if event not in waits or not is_fault(Runs(table), act, event, waits[event]):
        raise NoFault(act, event)
    hours = extreme_hours(table, event)
    lates = [[low] for _, _, low, _ in working.line.wires()]
    world = World(working, [0 for _ in range(working.line.size)], _whims(table, event, hours), lates)
    return (world, max([hour for hour in hours if hour is not None]) + 1)


def _whims(table, event, hours):
    """Lists the whims with which each event comes at its hour in the extreme run for the event."""
    working = table.working
    whims = [_early_whim(working, other) for other in range(working.size)]
    if hours[event] is None:
        return whims
    chain = bounded_chain(working, event)
    for ancestor, _ in chain[:-1]:
        whims[ancestor] = working.cause(ancestor)[2]
    # What the root waits for does not wait for the root, so it comes as early as it can in both runs.
    root = chain[-1][0]
    whims[root] += hours[root] - earliest_hours(table)[root]
    return whims


def _early_whim(working, event):
    link = working.cause(event)
    return 0 if link is None else link[1]
