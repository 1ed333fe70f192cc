"""Rings of events that wait for each other."""

from surerails.workings import waits_of


def find_ring(working):
    """Gives a ring of the working, or None if there is none."""
    placed = waiting_order(working)
    rest = [event for event in range(working.size) if event not in placed]
    if not rest:
        return None
    path = [rest[0]]
    while True:
        # Each event of the rest waits for another one of the rest, so the path goes on until it meets itself.
        follower = [other for other, _ in waits_of(working, path[-1]) if other in rest][0]
        if follower in path:
            return path[path.index(follower):]
        path.append(follower)


def is_ring(working, events):
    """Tells whether the numbers are a ring of the working."""
    if not events or len(set(events)) != len(events):
        return False
    if not all([0 <= event < working.size for event in events]):
        return False
    return all([
        _waits_for(working, event, follower) for event, follower in zip(events, events[1:] + events[:1])
    ])


def waiting_order(working):
    """Lists the events, each behind all for which it waits; what has a ring before it is left out."""
    placed = {}
    grown = True
    while grown:
        grown = False
        for event in range(working.size):
            if event not in placed and all([other in placed for other, _ in waits_of(working, event)]):
                placed[event] = True
                grown = True
    return list(placed)


def _waits_for(working, event, follower):
    return follower in [other for other, _ in waits_of(working, event)]
