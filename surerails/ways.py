"""The ways of bounds: how far apart two clocks can be, and whether a record is possible."""

from surerails.bounds import bounds_of
from surerails.clocks import Clocks, checked_clocks
from surerails.lines import check_box


def widest(record, first, second):
    """Gives the greatest value of the second setting minus the first, with a way that shows it, or None."""
    check_box(record.line, first)
    check_box(record.line, second)
    ways = checked_clocks(record).reached(first)
    if second not in ways:
        return None
    hours, way = ways[second]
    return (hours, list(way))


def find_bad_ring(record):
    """Gives a bad ring of the record, or None if there is none."""
    ring = Clocks(record).ring
    if ring is None:
        return None
    return list(ring)


def is_bad_ring(record, ring):
    """Tells whether the bounds are a bad ring of the record."""
    if not ring or not is_way(record, ring, ring[0][1], ring[0][1]):
        return False
    return length_of(ring) < 0 and len(set([bound[1] for bound in ring])) == len(ring)


def is_possible(record):
    """Tells whether some run holds the record."""
    return Clocks(record).ring is None


def is_way(record, way, first, second):
    """Tells whether the list is a way of bounds of the record from the first box to the second."""
    bounds = bounds_of(record)
    box = first
    for bound in way:
        if bound not in bounds or bound[1] != box:
            return False
        box = bound[0]
    return box == second


def length_of(way):
    """Gives the sum of the numbers of the bounds of a way."""
    return sum([bound[2] for bound in way])
