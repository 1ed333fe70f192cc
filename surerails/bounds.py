"""The bounds that a record gives for the settings of the clocks."""

from surerails.checks import check_settings
from surerails.workings import bounded_chain


def bounds_of(record):
    """Lists all bounds (later, earlier, most, reason) of the record, ascending."""
    return sorted(gathered_bounds(record))


def is_placing(record, settings):
    """Tells whether the settings are one for each box and keep all bounds."""
    return len(settings) == record.line.size and not broken_bounds(record, settings)


def broken_bounds(record, settings):
    """Lists the bounds that the settings do not keep, ascending."""
    check_settings(record.line, settings)
    return [
        (later, earlier, most, reason) for later, earlier, most, reason in bounds_of(record)
        if settings[later] - settings[earlier] > most
    ]


def gathered_bounds(record):
    """Lists all bounds of the record in any order."""
    return (
        _told_bounds(record) + _letter_bounds(record) + _silence_bounds(record)
        + _ride_bounds(record) + _awaited_bounds(record)
    )


def seen_ancestor(record, event):
    """Gives the first pair (ancestor, hours) of the event's bounded chain whose ancestor is seen, or None."""
    for ancestor, hours in bounded_chain(record.working, event):
        if record.reading(ancestor) is not None:
            return (ancestor, hours)
    return None


def _told_bounds(record):
    return [(later, earlier, most, ("told", later, earlier)) for later, earlier, most in record.line.bounds()]


def _letter_bounds(record):
    spans = {(source, target): (low, high) for source, target, low, high in record.line.wires()}
    found = []
    for source, target, sent, come in record.letters():
        low, high = spans[source, target]
        found.append((source, target, come - sent - low, ("early", source, target, sent)))
        if high is not None:
            found.append((target, source, sent + high - come, ("late", source, target, sent)))
    return found


def _silence_bounds(record):
    found = []
    for source, target, _, high in record.line.wires():
        if high is not None:
            sent = record.first_missing(source, target)
            most = sent + high - 1 - record.height(target)
            found.append((target, source, most, ("silence", source, target, sent)))
    return found


def _ride_bounds(record):
    working = record.working
    found = []
    for ride, reading in record.seen():
        link = working.cause(ride)
        if link is not None:
            cause, low, high = link
            here, there, before = working.box_of(ride), working.box_of(cause), record.reading(cause)
            found.append((there, here, reading - before - low, ("soon", ride)))
            if high is not None:
                found.append((here, there, before + high - reading, ("due", ride)))
    return found


def _awaited_bounds(record):
    working = record.working
    found = []
    for ride in range(working.size):
        link = seen_ancestor(record, ride)
        if link is not None and record.reading(ride) is None:
            ancestor, hours = link
            here, there = working.box_of(ride), working.box_of(ancestor)
            most = record.reading(ancestor) + hours - 1 - record.height(here)
            found.append((here, there, most, ("awaited", ride)))
    return found
