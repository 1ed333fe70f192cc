"""Records: what was written down up to some readings."""

from surerails.books import closure_of, events_in
from surerails.errors import BadHeight, BadReading, CameTwice, CauseMissing, NotClosed, SeenTwice
from surerails.lines import check_box
from surerails.workings import check_event


class Record:
    """The heights of the boxes, with the events that were seen and the letters that came up to them.

    The attribute pulls has for each box its triples (reading, source, sent), ascending: whoever knows of the
    box's reading knows, by a letter or by a ride, of the moment (source, sent).
    """

    def __init__(self, working, heights, *, seen=(), letters=()):
        self.working = working
        self.line = working.line
        self._heights = _checked_heights(self.line, heights)
        self._readings = _checked_seen(working, self._heights, seen)
        self._comes = _checked_letters(self.line, self._heights, letters)
        self.pulls = _pulls_by_box(working, self._readings, self._comes)

    def heights(self):
        """Lists the heights of the boxes."""
        return list(self._heights)

    def seen(self):
        """Lists the pairs (event, reading), ascending."""
        return list(self._readings.items())

    def letters(self):
        """Lists the letters as tuples (source, target, sent, come), ascending."""
        return [(source, target, sent, come) for (source, target, sent), come in self._comes.items()]

    def height(self, box):
        """Gives the last reading of the box in the record, or -1."""
        check_box(self.line, box)
        return self._heights[box]

    def reading(self, event):
        """Gives the reading at which the event was seen, or None."""
        check_event(self.working, event)
        return self._readings.get(event)

    def come(self, source, target, sent):
        """Gives the reading at which a letter came, or None."""
        self._check_wire(source, target)
        return self._comes.get((source, target, sent))

    def first_missing(self, source, target):
        """Gives the least reading whose letter over the wire did not come."""
        self._check_wire(source, target)
        sent = 0
        while (source, target, sent) in self._comes:
            sent += 1
        return sent

    def part(self, cut):
        """Gives the record of what stands in a closed cut."""
        closed = closure_of(self, cut)
        for box in range(self.line.size):
            if closed.height(box) > cut.height(box):
                raise NotClosed(box)
        return part_with(self, cut, events_in(self, cut))

    def _check_wire(self, source, target):
        # The line raises the errors of a wire that is none.
        self.line.wire(source, target)


def part_with(record, cut, events):
    """Gives the part of the record in a closed cut, of whose events only the listed ones are seen."""
    seen = [(event, record.reading(event)) for event in events]
    letters = [letter for letter in record.letters() if (letter[1], letter[3]) in cut]
    return Record(record.working, list(cut), seen=seen, letters=letters)


def _checked_heights(line, heights):
    for box in range(line.size):
        if box >= len(heights) or heights[box] < -1:
            raise BadHeight(box)
    if len(heights) > line.size:
        raise BadHeight(line.size)
    return list(heights)


def _checked_seen(working, heights, seen):
    """Gives the reading of each seen event, in ascending order of the events."""
    readings = {}
    for event, reading in seen:
        box = working.box_of(event)
        if event in readings:
            raise SeenTwice(event)
        _check_reading(heights, box, reading)
        readings[event] = reading
    for event in sorted(readings):
        cause = working.cause(event)
        if cause is not None and cause[0] not in readings:
            raise CauseMissing(event)
    return {event: readings[event] for event in sorted(readings)}


def _checked_letters(line, heights, letters):
    """Gives the reading at which each letter (source, target, sent) came, in ascending order of the letters."""
    comes = {}
    for source, target, sent, come in letters:
        line.wire(source, target)
        _check_reading(heights, source, sent)
        _check_reading(heights, target, come)
        if (source, target, sent) in comes:
            raise CameTwice(source, target, sent)
        comes[source, target, sent] = come
    return {letter: comes[letter] for letter in sorted(comes)}


def _check_reading(heights, box, reading):
    if not 0 <= reading <= heights[box]:
        raise BadReading(box, reading)


def _pulls_by_box(working, readings, comes):
    pulls = [[] for _ in range(working.line.size)]
    for (source, target, sent), come in comes.items():
        pulls[target].append((come, source, sent))
    for ride, reading in readings.items():
        cause = working.cause(ride)
        if cause is not None:
            pulls[working.box_of(ride)].append((reading, working.box_of(cause[0]), readings[cause[0]]))
    return tuple([tuple(sorted(rows)) for rows in pulls])
