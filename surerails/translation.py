"""From the plan to the working of its trains."""

from surerails.workings import Working


def working_of(plan):
    """Gives the working with the events of the plan, train by train."""
    events = []
    for train in range(plan.size):
        events.extend(_events_of(plan, train))
    return Working(plan.line, events)


def _events_of(plan, number):
    """Lists the events of one train: the entry, each departure with its arrival, and the going."""
    train = plan.train(number)
    boxes = train.boxes()
    events = [("act", boxes[0], _clearances(plan, number, [train.track_at(0)]))]
    for k, (low, high) in enumerate(train.rides()):
        before = plan.event(number, 2 * k)
        taken = [train.section_after(k), train.track_at(k + 1)]
        events.append(("act", boxes[k], [(before, train.dwell)] + _clearances(plan, number, taken)))
        events.append(("ride", boxes[k + 1], before + 1, low, high))
    low, high = train.away
    events.append(("ride", boxes[-1], plan.event(number, 2 * train.stations - 2), low, high))
    return events


def _clearances(plan, train, places):
    """Lists the demands that the trains before this one have cleared the places."""
    demands = []
    for place in places:
        order = plan.order(place)
        at = order.index(train)
        if at > 0:
            _, end = plan.stay(place, order[at - 1])
            demands.append((end, plan.clearing))
    return demands
