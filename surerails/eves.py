"""Eves: what a box has in its book before it acts."""

from surerails.books import book_of, events_in
from surerails.records import part_with


def eve_of(record, box, reading):
    """Gives the record of what the box knows at the moment without the acts of this very moment."""
    book = book_of(record, box, reading)
    undone = _acts_and_rides(record, box, reading)
    return part_with(record, book, [event for event in events_in(record, book) if event not in undone])


def _acts_and_rides(record, box, reading):
    """Lists the acts that happen at the moment, and the seen rides that follow from them."""
    working = record.working
    found = []
    # A ride has a greater number than its cause.
    for event, seen_at in record.seen():
        link = working.cause(event)
        if link is not None and link[0] in found:
            found.append(event)
        elif working.kind(event) == "act" and working.box_of(event) == box and seen_at == reading:
            found.append(event)
    return found
