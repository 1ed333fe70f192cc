"""Placings with a wish: the latest and the earliest one, or one with a given difference."""

from surerails.bounds import bounds_of
from surerails.clocks import checked_clocks, earliest_settings, latest_settings, some_settings
from surerails.errors import NoPlacing
from surerails.lines import check_box


def latest_placing(record, box, *, far=0):
    """Gives the placing in which all is as late as it can be for the box; unbounded settings are at least far."""
    check_box(record.line, box)
    clocks = checked_clocks(record)
    return latest_settings(clocks.tight, clocks.size, box, far)


def earliest_placing(record, box, *, far=0):
    """Gives the placing in which all is as early as it can be for the box; unbounded settings are at most far."""
    check_box(record.line, box)
    clocks = checked_clocks(record)
    return earliest_settings(clocks.tight, clocks.size, box, far)


def placing_with(record, first, second, hours):
    """Gives a placing in which the second setting minus the first is hours."""
    check_box(record.line, first)
    check_box(record.line, second)
    clocks = checked_clocks(record)
    least, greatest = difference_span(clocks, first, second)
    if (least is not None and hours < least) or (greatest is not None and hours > greatest):
        raise NoPlacing(least, greatest)
    wish = [(second, first, hours, ()), (first, second, -hours, ())]
    return some_settings(list(clocks.tight) + wish, clocks.size)


def ticks_left(record, box):
    """Gives the greatest number of hours for which the box can go on without anything new, or None."""
    check_box(record.line, box)
    ways = checked_clocks(record).reached(box)
    spare = [
        most + ways[earlier][0] for later, earlier, most, reason in bounds_of(record)
        if later == box and reason[0] in ("silence", "awaited") and earlier in ways
    ]
    return min(spare, default=None)


def difference_span(clocks, first, second):
    """Gives the least and the greatest value of the second setting minus the first; each may be None."""
    back = clocks.hours(second, first)
    return (None if back is None else -back, clocks.hours(first, second))
