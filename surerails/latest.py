"""The latest hours of the events under a table, if everything comes that can be hoped for."""

from surerails.runs import hours_with, rows_by_event
from surerails.workings import check_event
from surerails.worlds import World


def latest_hours(table):
    """Lists the hour at which each event has come at the latest, or None if it may never come."""
    found = hours_with(rows_by_event(table, True), {})
    return [found[event][1] if event in found else None for event in range(table.working.size)]


def broken_promises(table, promises):
    """Lists a pair (index, lateness) for each promise (event, hours) that may not be kept."""
    for event, _ in promises:
        check_event(table.working, event)
    latest = latest_hours(table)
    broken = []
    for index, (event, hours) in enumerate(promises):
        if latest[event] is None:
            broken.append((index, None))
        elif latest[event] > hours:
            broken.append((index, latest[event] - hours))
    return broken


def worst_world(working):
    """Gives the world in which everything is as late as it can be, and what has no high never comes."""
    links = [working.cause(event) for event in range(working.size)]
    whims = [0 if link is None else link[2] for link in links]
    lates = [[high] for _, _, _, high in working.line.wires()]
    return World(working, [0 for _ in range(working.line.size)], whims, lates)
