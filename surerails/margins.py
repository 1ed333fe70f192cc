"""By how many hours an act follows an event in all runs of a table, and which demands the table does not keep."""

from surerails.checks import check_act
from surerails.runs import Runs
from surerails.workings import check_event


def margin(table, act, event):
    """Gives ("least", hours), or ("any", 0) if the event need not come at all, or ("never", 0) for no such act."""
    check_act(table.working, act)
    check_event(table.working, event)
    return margin_in(Runs(table), act, event)


def faults(table):
    """Lists a pair (act, event) for each demand that is not kept in all runs, ascending."""
    runs = Runs(table)
    return [
        (act, event)
        for act in range(table.working.size)
        for event, wait in table.working.demands(act)
        if is_fault(runs, act, event, wait)
    ]


def is_safe_table(table):
    """Tells whether all demands are kept in all runs."""
    return not faults(table)


def margin_in(runs, act, event):
    """Gives the margin of the act behind the event in the runs of a table."""
    if act not in runs.earliest:
        return ("never", 0)
    if event not in runs.earliest:
        return ("any", 0)
    hours = runs.extreme(event)
    if hours[act][0] == 0:
        # The act does not wait for the root of the event, which may come as late as it likes.
        return ("any", 0)
    return ("least", hours[act][1] - hours[event][1])


def is_fault(runs, act, event, wait):
    """Tells whether some run does not keep the demand."""
    kind, hours = margin_in(runs, act, event)
    return kind == "any" or (kind == "least" and hours < wait)
