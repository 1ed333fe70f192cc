"""The least and the greatest number of hours between what was seen."""

from surerails.checks import check_now
from surerails.clocks import checked_clocks
from surerails.errors import NotSeen
from surerails.placings import difference_span
from surerails.workings import check_event


def age_span(record, box, now, event):
    """Gives the least and the greatest number of hours from a seen event to the hour at which the box shows now."""
    check_now(record, box, now)
    check_event(record.working, event)
    _check_seen(record, event)
    moment = (record.working.box_of(event), record.reading(event))
    return _hours_span(record, moment, (box, now))


def hours_apart(record, first, second):
    """Gives the least and the greatest number of hours from the first seen event to the second."""
    working = record.working
    for event in (first, second):
        check_event(working, event)
    for event in (first, second):
        _check_seen(record, event)
    begin = (working.box_of(first), record.reading(first))
    return _hours_span(record, begin, (working.box_of(second), record.reading(second)))


def _check_seen(record, event):
    if record.reading(event) is None:
        raise NotSeen(event)


def _hours_span(record, first, second):
    """Gives the span of the hours from one reading of a box to another one; each number may be None."""
    least, greatest = difference_span(checked_clocks(record), first[0], second[0])
    passed = second[1] - first[1]
    return (None if least is None else least + passed, None if greatest is None else greatest + passed)
