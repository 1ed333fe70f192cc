"""Rings of events that wait for each other."""

from surerails.workings import waits_of


def find_ring(working):
    """Gives a ring of the working, or None if there is none."""
    return ring_in(_waits_by_event(working))


def is_ring(working, events):
    """Tells whether the numbers are a ring of the working."""
    if not events or len(set(events)) != len(events):
        return False
    if not all([0 <= event < working.size for event in events]):
        return False
    links = _waits_by_event(working)
    return all([follower in links[event] for event, follower in zip(events, events[1:] + events[:1])])


def waiting_order(working):
    """Lists the events, each behind all for which it waits; what has a ring before it is left out."""
    return order_of(_waits_by_event(working))


def order_of(links):
    """Lists the numbers, each behind all to which it is linked; what leads to a ring is left out."""
    placed = {}
    grown = True
    while grown:
        grown = False
        for number, others in enumerate(links):
            if number not in placed and all([other in placed for other in others]):
                placed[number] = True
                grown = True
    return list(placed)


def ring_in(links):
    """Gives a list in which each number is linked to the next one and the last to the first, or None."""
    placed = order_of(links)
    rest = [number for number in range(len(links)) if number not in placed]
    if not rest:
        return None
    path = [rest[0]]
    while True:
        # Each number of the rest is linked to another one of the rest, so the path goes on until it meets itself.
        follower = [other for other in links[path[-1]] if other in rest][0]
        if follower in path:
            return path[path.index(follower):]
        path.append(follower)


def _waits_by_event(working):
    """Lists for each event those for which it waits."""
    return [[other for other, _ in waits_of(working, event)] for event in range(working.size)]
