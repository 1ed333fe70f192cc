"""What rules look at when they judge acts, worked out once for all acts and rules."""

from surerails.clocks import Clocks
from surerails.errors import Impossible
from surerails.eves import eve_of
from surerails.hearing import events_heard


class Rule:
    """A rule of this package: its method judge does what allows does, but looks at a view."""


class View:
    """A record as rules look at it, with what was found out about it.

    The attributes are record and court, a Court that may be shared with views of the same run.
    """

    def __init__(self, record, court):
        self.record = record
        self.court = court
        self._clocks = None
        self._heard = {}
        self._fair = {}

    def clocks(self):
        """Gives the clocks of the record; raises Impossible if it is not possible."""
        if self._clocks is None:
            self._clocks = Clocks(self.record)
        if self._clocks.ring is not None:
            raise Impossible(list(self._clocks.ring))
        return self._clocks

    def heard(self, box):
        """Gives for each event of which the box has heard the reading at which it did."""
        if box not in self._heard:
            self._heard[box] = events_heard(self.record, box)
        return self._heard[box]

    def is_fair(self, rule):
        """Tells whether the rule allows each act that is seen in the record in the eve of its moment."""
        if rule not in self._fair:
            acts = seen_acts(self.record)
            self._fair[rule] = all([self.court.was_allowed(self.record, rule, act) for act in acts])
        return self._fair[rule]


class Court:
    """The eves of seen acts and what rules say of them, for the records of one possible run.

    In all of these records that have seen an act the eve of its moment is the same, so it is worked out once.
    """

    def __init__(self):
        self._eves = {}
        self._verdicts = {}

    def eve(self, record, act):
        """Gives the view of the eve of the moment at which the act is seen."""
        moment = (record.working.box_of(act), record.reading(act))
        if moment not in self._eves:
            self._eves[moment] = View(eve_of(record, moment[0], moment[1]), self)
        return self._eves[moment]

    def was_allowed(self, record, rule, act):
        """Tells whether the rule allows a seen act in the eve of its moment."""
        if (rule, act) not in self._verdicts:
            eve = self.eve(record, act)
            self._verdicts[rule, act] = is_allowed(rule, eve, record.reading(act), act)
        return self._verdicts[rule, act]


def is_allowed(rule, view, now, act):
    """Tells whether the rule allows the act; a rule from elsewhere is asked by its method allows."""
    if isinstance(rule, Rule):
        return rule.judge(view, now, act)
    return rule.allows(view.record, now, act)


def seen_acts(record):
    """Lists the acts that are seen in the record, ascending."""
    return [event for event, _ in record.seen() if record.working.kind(event) == "act"]


def view_of(record):
    """Gives the view of a record alone."""
    return View(record, Court())
