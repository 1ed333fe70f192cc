"""What a box can be sure of: how old an event is at least."""

from surerails.bounds import seen_ancestor
from surerails.checks import check_now
from surerails.clocks import checked_clocks, latest_settings
from surerails.lines import check_box
from surerails.ways import is_way, length_of
from surerails.workings import bounded_chain, check_event


def surely(record, box, now, event, hours):
    """Gives ("sure", certificate) if the event is surely so many hours old, otherwise ("open", settings)."""
    check_now(record, box, now)
    check_event(record.working, event)
    clocks = checked_clocks(record)
    since = sure_reading(record, clocks, box, event)
    if since is None or since + hours > now:
        return ("open", other_settings(record, clocks, box, now, event, hours))
    ancestor, high = seen_ancestor(record, event)
    _, way = clocks.reached(box)[record.working.box_of(ancestor)]
    return ("sure", (ancestor, high, list(way)))


def is_certificate(record, box, now, event, hours, certificate):
    """Tells whether the tuple shows that the event is so many hours old."""
    check_now(record, box, now)
    check_event(record.working, event)
    ancestor, high, way = certificate
    if (ancestor, high) not in bounded_chain(record.working, event) or record.reading(ancestor) is None:
        return False
    if not is_way(record, way, box, record.working.box_of(ancestor)):
        return False
    return length_of(way) + record.reading(ancestor) + high + hours <= now


def sure_age(record, box, now, event):
    """Gives the greatest number of hours that the event is surely old, or None."""
    check_now(record, box, now)
    check_event(record.working, event)
    since = sure_reading(record, checked_clocks(record), box, event)
    return None if since is None else now - since


def sure_from(record, box, event, hours):
    """Gives the least reading at which the event is surely so many hours old, or None."""
    check_box(record.line, box)
    check_event(record.working, event)
    since = sure_reading(record, checked_clocks(record), box, event)
    return None if since is None else max(0, record.height(box), since + hours)


def sure_reading(record, clocks, box, event):
    """Gives the number that the clock of the box shows at the latest hour of the event, or None."""
    link = seen_ancestor(record, event)
    if link is None:
        return None
    ancestor, high = link
    ahead = clocks.hours(box, record.working.box_of(ancestor))
    return None if ahead is None else ahead + record.reading(ancestor) + high


def other_settings(record, clocks, box, now, event, hours):
    """Lists the settings of another run; the event is not surely so many hours old."""
    link = seen_ancestor(record, event)
    far = 0
    if link is not None:
        ancestor, high = link
        far = now + 1 - hours - high - record.reading(ancestor)
    return latest_settings(clocks.tight, clocks.size, box, far)
