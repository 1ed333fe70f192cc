"""How what happens at one box is heard of at another one."""

from surerails.books import Growth, book_of, check_moment, events_in
from surerails.errors import NotCome
from surerails.lines import check_box


def trail_of(record, first, second):
    """Gives a trail with as few hops as possible, or None."""
    check_moment(record, first[0], first[1])
    check_moment(record, second[0], second[1])
    box, reading = second
    for reached, hops in _arrivals(record, first)[box]:
        if reached <= reading:
            return hops
    return None


def is_trail(record, first, second, hops):
    """Tells whether the hops lead from the first moment to the second."""
    check_moment(record, first[0], first[1])
    check_moment(record, second[0], second[1])
    ends = _ends_by_hop(record)
    box, reading = first
    for hop in hops:
        if hop not in ends:
            return False
        start, left, goal, reached = ends[hop]
        if start != box or left < reading:
            return False
        box, reading = goal, reached
    return box == second[0] and reading <= second[1]


def heard_at(record, moment, box):
    """Gives the least reading of the box whose book holds the moment, or None."""
    check_moment(record, moment[0], moment[1])
    check_box(record.line, box)
    arrivals = _arrivals(record, moment)[box]
    if not arrivals:
        return None
    return arrivals[-1][0]


def letter_news(record, source, target, sent):
    """Lists the events of which the target had not heard before the letter came, ascending."""
    come = record.come(source, target, sent)
    if come is None:
        raise NotCome(source, target, sent)
    told = events_in(record, book_of(record, source, sent))
    if come == 0:
        return told
    known = events_in(record, book_of(record, target, come - 1))
    return [event for event in told if event not in known]


def events_heard(record, box):
    """Gives for each event of which the box has heard the least reading of the box whose book holds it."""
    growth = Growth(record)
    moments = {event: (record.working.box_of(event), reading) for event, reading in record.seen()}
    heard = {}
    for reading in range(record.height(box) + 1):
        growth.hold(box, reading)
        heights = growth.heights()
        for event, (place, at) in moments.items():
            if event not in heard and at <= heights[place]:
                heard[event] = reading
    return heard


def _ends_by_hop(record):
    """Gives for each hop of the record the box and reading that it leads from, and those that it leads to."""
    working = record.working
    ends = {}
    for source, target, sent, come in record.letters():
        ends["letter", source, target, sent, come] = (source, sent, target, come)
    for ride, reading in record.seen():
        link = working.cause(ride)
        if link is not None:
            cause = link[0]
            ends["ride", ride] = (working.box_of(cause), record.reading(cause), working.box_of(ride), reading)
    return ends


def _arrivals(record, moment):
    """Lists for each box the pairs (reading, hops): the ever lesser readings that more and more hops reach."""
    ends = _ends_by_hop(record)
    arrivals = [[] for _ in range(record.line.size)]
    fresh = {moment[0]: (moment[1], [])}
    while fresh:
        for box, arrival in fresh.items():
            arrivals[box].append(arrival)
        fresh = _one_hop_on(ends, arrivals, fresh)
    return arrivals


def _one_hop_on(ends, arrivals, fresh):
    """Gives the boxes that one hop more reaches at a lesser reading than before."""
    found = {}
    for hop, (start, left, goal, reached) in ends.items():
        if start in fresh and fresh[start][0] <= left and _is_less(reached, arrivals[goal]):
            if goal not in found or reached < found[goal][0]:
                found[goal] = (reached, fresh[start][1] + [hop])
    return found


def _is_less(reading, arrivals):
    return not arrivals or reading < arrivals[-1][0]
