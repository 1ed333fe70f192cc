"""The freest safe rule: an act may be done when all that it demands is surely old enough."""

from surerails.checks import check_question
from surerails.knowing import other_settings, sure_reading
from surerails.views import Rule, view_of


class Freest(Rule):
    """The rule that allows an act if each demanded event is surely as old as its wait."""

    def allows(self, record, now, act):
        """Tells whether the act may be done."""
        check_question(record, now, act)
        return self.judge(view_of(record), now, act)

    def judge(self, view, now, act):
        """Tells whether the act may be done in what is viewed."""
        return _refused_demand(view, now, act) is None


def refusal(record, now, act):
    """Gives the least demanded event that is not surely old enough, with another run, or None."""
    check_question(record, now, act)
    view = view_of(record)
    demand = _refused_demand(view, now, act)
    if demand is None:
        return None
    event, wait = demand
    box = record.working.box_of(act)
    return (event, other_settings(record, view.clocks(), box, now, event, wait))


def _refused_demand(view, now, act):
    """Gives the first demand of the act that is not surely kept, or None."""
    record, clocks = view.record, view.clocks()
    box = record.working.box_of(act)
    for event, wait in record.working.demands(act):
        since = sure_reading(record, clocks, box, event)
        if since is None or since + wait > now:
            return (event, wait)
    return None
