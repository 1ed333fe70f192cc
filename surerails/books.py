"""Closed cuts of a record, and the books of its moments."""

from surerails.cuts import Cut
from surerails.errors import BadCut, BadReading


class Growth:
    """A closed cut of a record that grows; it begins with nothing."""

    def __init__(self, record):
        self._pulls = record.pulls
        self._heights = [-1 for _ in record.pulls]
        # The pulls of each box are ascending: those below its count are done and need no second look.
        self._done = [0 for _ in record.pulls]

    def heights(self):
        """Lists the heights of the cut."""
        return list(self._heights)

    def hold(self, box, reading):
        """Makes it the least closed cut that holds the moment and what it held before."""
        rising = [(box, reading)]
        while rising:
            goal, least = rising.pop()
            if least > self._heights[goal]:
                self._heights[goal] = least
                rising.extend(self._pulled(goal))

    def _pulled(self, box):
        """Lists the moments of which the box has come to know with its present height."""
        pulls = self._pulls[box]
        begin = self._done[box]
        while self._done[box] < len(pulls) and pulls[self._done[box]][0] <= self._heights[box]:
            self._done[box] += 1
        return [(source, sent) for _, source, sent in pulls[begin:self._done[box]]]


def is_closed(record, cut):
    """Tells whether all that the cut has heard of stands in it."""
    return closure_of(record, cut) == cut


def closure_of(record, cut):
    """Gives the least closed cut that the cut is within."""
    _check_cut(record, cut)
    return Cut(_closed_heights(record, list(cut)))


def book_of(record, box, reading):
    """Gives the least closed cut that holds the moment."""
    return books_together(record, [(box, reading)])


def books_together(record, moments):
    """Gives the least closed cut that holds all of the moments."""
    heights = [-1 for _ in range(record.line.size)]
    for box, reading in moments:
        check_moment(record, box, reading)
        heights[box] = max(heights[box], reading)
    return Cut(_closed_heights(record, heights))


def check_moment(record, box, reading):
    """Raises NoBox or BadReading if the record has no such moment."""
    height = record.height(box)
    if not 0 <= reading <= height:
        raise BadReading(box, reading)


def events_in(record, cut):
    """Lists the seen events that stand in the cut, ascending."""
    return [event for event, reading in record.seen() if (record.working.box_of(event), reading) in cut]


def _check_cut(record, cut):
    heights = list(cut)
    for box in range(record.line.size):
        if box >= len(heights) or not -1 <= heights[box] <= record.height(box):
            raise BadCut(box)
    if len(heights) > record.line.size:
        raise BadCut(record.line.size)


def _closed_heights(record, heights):
    growth = Growth(record)
    for box, height in enumerate(heights):
        growth.hold(box, height)
    return growth.heights()
