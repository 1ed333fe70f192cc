"""Rules that are written as tables: for each act, what the box must have heard of and for how long."""

from surerails.checks import check_act, check_question
from surerails.errors import BadNeed, BadWait
from surerails.views import Rule, view_of
from surerails.workings import check_event


class Table(Rule):
    """Rows with needs; an act may be done when all needs of one of its rows are met."""

    def __init__(self, working, rows):
        self.working = working
        self._rows = [(act, _checked_needs(working, act, needs)) for act, needs in rows]

    def allows(self, record, now, act):
        """Tells whether all needs of one row of the act are met."""
        check_question(record, now, act)
        return self.judge(view_of(record), now, act)

    def judge(self, view, now, act):
        """Tells whether the act may be done in what is viewed."""
        heard = view.heard(self.working.box_of(act))
        return any([_are_met(heard, now, needs) for other, needs in self._rows if other == act])

    def rows(self):
        """Lists the rows as they were passed, as pairs (act, needs), the needs ascending."""
        return [(act, list(needs)) for act, needs in self._rows]

    def rows_of(self, act):
        """Lists the needs of each row of the act."""
        check_event(self.working, act)
        return [list(needs) for other, needs in self._rows if other == act]

    def with_waits(self, extras):
        """Gives the table in which the number of each act is added to all waits of its rows."""
        size = self.working.size
        for event in range(size):
            if event >= len(extras) or extras[event] < 0:
                raise BadWait(event)
        if len(extras) > size:
            raise BadWait(size)
        rows = [(act, [(event, wait + extras[act]) for event, wait in needs]) for act, needs in self._rows]
        return Table(self.working, rows)


def news_table(working):
    """Gives the table that waits until each demanded event has been heard of for the whole wait."""
    acts = [event for event in range(working.size) if working.kind(event) == "act"]
    return Table(working, [(act, working.demands(act)) for act in acts])


def _checked_needs(working, act, needs):
    check_act(working, act)
    waits = {}
    for event, wait in needs:
        check_event(working, event)
        if wait < 1 or event in waits:
            raise BadNeed(act, event)
        waits[event] = wait
    return tuple(sorted(waits.items()))


def _are_met(heard, now, needs):
    return all([event in heard and heard[event] + wait <= now for event, wait in needs])
