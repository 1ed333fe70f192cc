"""The earliest hours of the events in all runs of a table, and its extreme runs."""

from surerails.runs import Runs, all_lags
from surerails.workings import bounded_chain, check_event


def earliest_hours(table):
    """Lists the least hour of each event in the runs with the settings 0, or None."""
    return _hours_from(table.working, Runs(table).earliest, 0)


def extreme_hours(table, event):
    """Lists the hours of the run in which the event comes as late as it can for what happens with it, or None."""
    working = table.working
    check_event(working, event)
    runs = Runs(table)
    if event not in runs.earliest:
        return _hours_from(working, runs.earliest, 0)
    hours = runs.extreme(event)
    root = bounded_chain(working, event)[-1][0]
    return _hours_from(working, hours, max(runs.earliest[root][1], _last_hour(table, hours)) + 1)


def _hours_from(working, hours, begin):
    """Lists the hour of each event if the root comes at the hour begin; None for what never happens."""
    return [
        hours[event][0] * begin + hours[event][1] if event in hours else None for event in range(working.size)
    ]


def _last_hour(table, hours):
    """Gives the greatest hour by which something may be done that does not wait for the root."""
    working = table.working
    lags = all_lags(working.line, False)
    without = {event: hour for event, (late, hour) in hours.items() if late == 0}
    numbers = [0] + list(without.values())
    for act, needs in table.rows():
        for event, wait in needs:
            way = (working.box_of(event), working.box_of(act))
            if event in without and way in lags:
                numbers.append(without[event] + lags[way] + wait)
    return max(numbers)
