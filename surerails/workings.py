"""The working of a line: its events and what each of them waits for."""

from surerails.errors import BadDemand, BadRide, NoEvent, SlowWire
from surerails.lines import check_box, is_span


class Working:
    """The events of a line, numbered in the order of the list."""

    def __init__(self, line, events):
        self.line = line
        self.size = len(events)
        self._events = _checked_events(line, events)

    def box_of(self, event):
        """Gives the box at which the event happens."""
        check_event(self, event)
        return self._events[event][1]

    def kind(self, event):
        """Gives "free", "ride" or "act"."""
        check_event(self, event)
        return self._events[event][0]

    def cause(self, event):
        """Gives the triple (cause, low, high) of a ride, None for other events."""
        if self.kind(event) != "ride":
            return None
        return self._events[event][2:]

    def demands(self, event):
        """Lists the pairs (event, wait) that an act demands, ascending."""
        if self.kind(event) != "act":
            return []
        return list(self._events[event][2])

    def followers(self, event):
        """Lists the rides whose cause is the event, ascending."""
        check_event(self, event)
        return [ride for ride, row in enumerate(self._events) if row[0] == "ride" and row[2] == event]

    def events(self):
        """Lists all events as tuples."""
        return list(self._events)

    def events_at(self, box):
        """Lists the events at the box, ascending."""
        check_box(self.line, box)
        return [event for event, row in enumerate(self._events) if row[1] == box]


def check_event(working, event):
    """Raises NoEvent if the working has no event with this number."""
    if not 0 <= event < working.size:
        raise NoEvent(event)


def waits_of(working, event):
    """Lists the pairs (other, hours) of the events for which the event waits."""
    if working.kind(event) == "ride":
        cause, low, _ = working.cause(event)
        return [(cause, low)]
    return working.demands(event)


def bounded_chain(working, event):
    """Lists the event and the ancestors that surely draw it, with the hours that it comes behind them at most."""
    chain = [(event, 0)]
    link = working.cause(event)
    while link is not None and link[2] is not None:
        chain.append((link[0], chain[-1][1] + link[2]))
        link = working.cause(link[0])
    return chain


def _checked_events(line, events):
    rows = []
    for event in events:
        check_box(line, event[1])
        if event[0] == "ride":
            rows.append(_checked_ride(line, rows, event))
        elif event[0] == "act":
            rows.append(_checked_act(len(events), len(rows), event))
        else:
            rows.append(("free", event[1]))
    return rows


def _checked_ride(line, earlier, ride):
    _, box, cause, low, high = ride
    if not 0 <= cause < len(earlier):
        raise NoEvent(cause)
    if not is_span(low, high):
        raise BadRide(len(earlier))
    if not _is_told_in_time(line, earlier[cause][1], box, low):
        raise SlowWire(len(earlier))
    return ("ride", box, cause, low, high)


def _is_told_in_time(line, source, target, hours):
    """Tells whether what happens at the source is surely known at the target so many hours later."""
    if source == target:
        return True
    if target not in line.targets(source):
        return False
    _, high = line.wire(source, target)
    return high is not None and high <= hours


def _checked_act(size, number, act):
    _, box, demands = act
    waits = {}
    for event, wait in demands:
        if not 0 <= event < size:
            raise NoEvent(event)
        if wait < 1 or event in waits:
            raise BadDemand(number, event)
        waits[event] = wait
    return ("act", box, tuple(sorted(waits.items())))
