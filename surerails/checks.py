"""Checks of arguments that several files share."""

from surerails.errors import BadReading, BadSettings, NotAct


def check_settings(line, settings):
    """Raises BadSettings if the settings are not one for each box."""
    if len(settings) != line.size:
        raise BadSettings(min(len(settings), line.size))


def check_now(record, box, now):
    """Raises NoBox, or BadReading if the box has gone further than this reading, or has not begun."""
    if now < max(0, record.height(box)):
        raise BadReading(box, now)


def check_act(working, act):
    """Raises NoEvent, or NotAct if the event is not an act."""
    if working.kind(act) != "act":
        raise NotAct(act)


def check_question(record, now, act):
    """Raises the errors of a rule that is asked for an act."""
    check_act(record.working, act)
    check_now(record, record.working.box_of(act), now)
