"""Lists of deeds: performed on a desk, or found for a record."""

from surerails.blame import blamed
from surerails.clocks import checked_clocks, some_settings
from surerails.desk import Desk
from surerails.errors import Blamed
from surerails.freest import Freest


def replay(working, deeds):
    """Gives a new desk on which the deeds were performed."""
    desk = Desk(working)
    for deed in deeds:
        desk.perform(deed)
    return desk


def attempt(desk, deeds):
    """Performs all of the deeds on the desk, or none if one of them is refused; gives their number."""
    twin = desk.twin()
    for deed in deeds:
        twin.perform(deed)
    desk.take_over(twin)
    return len(deeds)


def deeds_of(record):
    """Lists deeds with which a new desk comes to the record."""
    clocks = checked_clocks(record)
    acts = blamed(record, Freest())
    if acts:
        raise Blamed(acts)
    settings = some_settings(clocks.tight, clocks.size)
    letters, events = _letters_by_moment(record), _events_by_moment(record)
    deeds = []
    for _, box, reading in _moments_in_order(record, settings):
        seen = events.get((box, reading), [])
        done = [event for event in seen if record.working.kind(event) == "act"]
        others = [event for event in seen if event not in done]
        deeds.append(("tick", box, tuple(letters.get((box, reading), [])), tuple(others)))
        deeds.extend([("act", act) for act in done])
    return deeds


def _moments_in_order(record, settings):
    """Lists the triples (hour, box, reading) of all moments of the record, hour by hour and box by box."""
    return sorted([
        (settings[box] + reading, box, reading)
        for box, height in enumerate(record.heights())
        for reading in range(height + 1)
    ])


def _letters_by_moment(record):
    """Lists for each moment the pairs (source, sent) of the letters that come at it."""
    found = {}
    for source, target, sent, come in record.letters():
        found.setdefault((target, come), []).append((source, sent))
    return found


def _events_by_moment(record):
    """Lists for each moment the events that are seen at it."""
    found = {}
    for event, reading in record.seen():
        found.setdefault((record.working.box_of(event), reading), []).append(event)
    return found
