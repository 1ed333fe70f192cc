"""The line: its boxes, its wires and what is told about its clocks."""

from surerails.errors import BadBound, BadSize, BadWire, NoBox, NoWire


class Line:
    """Boxes from 0 to size - 1, joined by wires."""

    def __init__(self, size, wires, *, bounds=()):
        if size < 1:
            raise BadSize(size)
        self.size = size
        self._spans = _spans_by_wire(self, wires)
        self._mosts = _mosts_by_pair(self, bounds)

    def wires(self):
        """Lists the wires as tuples (source, target, low, high), ascending."""
        return [(source, target, low, high) for (source, target), (low, high) in self._spans.items()]

    def bounds(self):
        """Lists the clock bounds as triples (later, earlier, most), ascending."""
        return [(later, earlier, most) for (later, earlier), most in self._mosts.items()]

    def wire(self, source, target):
        """Gives the pair (low, high) of a wire."""
        check_box(self, source)
        check_box(self, target)
        if (source, target) not in self._spans:
            raise NoWire(source, target)
        return self._spans[source, target]

    def sources(self, box):
        """Lists the boxes from which a wire leads to the box, ascending."""
        check_box(self, box)
        return [source for source, target in self._spans if target == box]

    def targets(self, box):
        """Lists the boxes to which a wire leads from the box, ascending."""
        check_box(self, box)
        return [target for source, target in self._spans if source == box]


def check_box(line, box):
    """Raises NoBox if the line has no box with this number."""
    if not 0 <= box < line.size:
        raise NoBox(box)


def is_span(low, high):
    """Tells whether the hours are at least 1 and in order; high may be None."""
    return low >= 1 and (high is None or high >= low)


def _spans_by_wire(line, wires):
    spans = {}
    for source, target, low, high in wires:
        check_box(line, source)
        check_box(line, target)
        if source == target or not is_span(low, high) or (source, target) in spans:
            raise BadWire(source, target)
        spans[source, target] = (low, high)
    return {pair: spans[pair] for pair in sorted(spans)}


def _mosts_by_pair(line, bounds):
    mosts = {}
    for later, earlier, most in bounds:
        check_box(line, later)
        check_box(line, earlier)
        if later == earlier or most < 0 or (later, earlier) in mosts:
            raise BadBound(later, earlier)
        mosts[later, earlier] = most
    return {pair: mosts[pair] for pair in sorted(mosts)}
