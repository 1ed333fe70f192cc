"""What happens if everything that is still out comes as late as it can."""

from surerails.bounds import is_placing, seen_ancestor
from surerails.checks import check_now, check_settings
from surerails.workings import check_event


def continuation(record, settings):
    """Lists the latest hour of each event under the settings, or None."""
    check_settings(record.line, settings)
    return [_latest_hour(record, settings, event) for event in range(record.working.size)]


def is_other_run(record, box, now, event, hours, settings):
    """Tells whether the settings are a placing under which the event may be less than so many hours old."""
    check_now(record, box, now)
    check_event(record.working, event)
    if not is_placing(record, settings):
        return False
    hour = _latest_hour(record, settings, event)
    return hour is None or hour + hours > settings[box] + now


def _latest_hour(record, settings, event):
    link = seen_ancestor(record, event)
    if link is None:
        return None
    ancestor, hours = link
    return settings[record.working.box_of(ancestor)] + record.reading(ancestor) + hours
