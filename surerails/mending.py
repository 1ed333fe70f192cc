"""The least extra waits that make a table safe."""

from surerails.errors import Circular, NoWait
from surerails.margins import faults, margin_in
from surerails.rings import order_of, ring_in
from surerails.runs import Runs, chain_hours, hour_after
from surerails.workings import bounded_chain


def least_waits(table):
    """Lists for each event the hours that are to be added to all waits of its rows."""
    working = table.working
    links = _looks_by_event(table)
    ring = ring_in(links)
    if ring is not None:
        raise Circular(ring)
    runs = Runs(table)
    _check_mendable(table, runs)
    extremes = {event: chain_hours(working, event) for event in _demanded_events(working)}
    extras = [0 for _ in range(working.size)]
    for event in order_of(links):
        if event in runs.earliest:
            extras[event] = _missing_hours(runs, extremes, event)
        for hours in extremes.values():
            least = hour_after(runs.rows[event], hours, extras[event])
            if event not in hours and least is not None:
                hours[event] = least
    return extras


def _looks_by_event(table):
    """Lists for each event those at which it looks."""
    working = table.working
    links = [working.cause(event) for event in range(working.size)]
    looks = [[] if link is None else [link[0]] for link in links]
    for act, needs in table.rows():
        looks[act].extend([event for event, _ in needs])
    return looks


def _check_mendable(table, runs):
    for act, event in faults(table):
        chain = [ancestor for ancestor, _ in bounded_chain(table.working, event)]
        if act in chain or margin_in(runs, act, event)[0] == "any":
            raise NoWait(act, event)


def _demanded_events(working):
    """Lists the events that some act demands."""
    return sorted(set([event for act in range(working.size) for event, _ in working.demands(act)]))


def _missing_hours(runs, extremes, act):
    """Gives the hours by which the act comes too early in some extreme run; all before it have their hours there."""
    missing = [0]
    for event, wait in runs.working.demands(act):
        hours = extremes[event]
        missing.append(wait + hours[event][1] - hour_after(runs.rows[act], hours, 0)[1])
    return max(missing)
