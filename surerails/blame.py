"""What a rule says of the acts of a record: which ones it gives leave for, and which ones it blames."""

from surerails.eves import eve_of
from surerails.views import Court, is_allowed, seen_acts, view_of


def leaves(record, rule, box, reading):
    """Lists the acts of the box that the rule allows in the eve of the moment, ascending."""
    eve = eve_of(record, box, reading)
    view = view_of(eve)
    working = record.working
    acts = [event for event in working.events_at(box) if working.kind(event) == "act" and eve.reading(event) is None]
    return [act for act in acts if is_allowed(rule, view, reading, act)]


def blamed(record, rule):
    """Lists the seen acts that the rule does not allow in the eve of their moment, ascending."""
    return _blamed_by(Court(), record, rule)


def culprits(record, rule):
    """Lists the blamed acts in whose eves no other blamed act is seen, ascending."""
    court = Court()
    acts = _blamed_by(court, record, rule)
    return [act for act in acts if not _is_any_seen(court.eve(record, act).record, acts)]


def _blamed_by(court, record, rule):
    return [act for act in seen_acts(record) if not court.was_allowed(record, rule, act)]


def _is_any_seen(eve, acts):
    return any([eve.reading(act) is not None for act in acts])
