"""The earliest hours of the events in all runs of a table, and its extreme runs."""

from surerails.lags import lag
from surerails.workings import bounded_chain


def earliest_hours(table):
    """Lists the least hour of each event in the runs with the settings 0, or None."""
    return _hours_with(table, {})


def extreme_hours(table, event):
    """Lists the hours of the run in which the event comes as late as it can for what happens with it, or None."""
    chain = bounded_chain(table.working, event)
    earliest = earliest_hours(table)
    if earliest[event] is None:
        return earliest
    root, high = chain[-1]
    without = _hours_with(table, {root: None})
    begin = _last_number(table, earliest[root], without) + 1
    fixed = {other: hour for other, hour in enumerate(without) if hour is not None}
    for ancestor, hours in chain:
        fixed[ancestor] = begin + high - hours
    return _hours_with(table, fixed)


def _last_number(table, root_hour, without):
    """Gives the greatest hour by which something may be done that does not wait for the root."""
    working = table.working
    lags = _all_lags(working.line)
    numbers = [0, root_hour] + [hour for hour in without if hour is not None]
    for act, needs in table.rows():
        for event, wait in needs:
            way = (working.box_of(event), working.box_of(act))
            if without[event] is not None and way in lags:
                numbers.append(without[event] + lags[way] + wait)
    return max(numbers)


def _hours_with(table, fixed):
    """Lists the least hour of each event in the runs in which some events have a given hour, or None for never."""
    working = table.working
    lags = _all_lags(working.line)
    found = {event: hour for event, hour in fixed.items() if hour is not None}
    grown = True
    while grown:
        grown = False
        for event in range(working.size):
            if event not in fixed:
                hour = _hour_after(table, lags, found, event)
                if hour is not None and (event not in found or hour < found[event]):
                    found[event] = hour
                    grown = True
    return [found.get(event) for event in range(working.size)]


def _hour_after(table, lags, found, event):
    """Gives the least hour at which the event can follow what is found, or None."""
    kind = table.working.kind(event)
    if kind == "free":
        return 0
    if kind == "ride":
        cause, low, _ = table.working.cause(event)
        return found[cause] + low if cause in found else None
    hours = [_row_hour(table, lags, found, event, needs) for needs in table.rows_of(event)]
    return min([hour for hour in hours if hour is not None], default=None)


def _row_hour(table, lags, found, act, needs):
    """Gives the least hour at which all needs are met, or None."""
    working = table.working
    hours = [0]
    for event, wait in needs:
        way = (working.box_of(event), working.box_of(act))
        if event not in found or way not in lags:
            return None
        hours.append(found[event] + lags[way] + wait)
    return max(hours)


def _all_lags(line):
    """Gives the lag between each two boxes that are joined by a way."""
    pairs = [(source, target) for source in range(line.size) for target in range(line.size)]
    found = {pair: lag(line, pair[0], pair[1]) for pair in pairs}
    return {pair: hours for pair, hours in found.items() if hours is not None}
