"""Torn books: what a box has left, and when the letters have told it again all that it had lost."""

from surerails.books import Growth, book_of, check_moment
from surerails.cuts import Cut
from surerails.errors import BadTear


def torn_book(record, box, place, hour, now):
    """Gives the cut that the box has as its book at the reading now."""
    check_moment(record, box, now)
    if not -1 <= place < hour <= now:
        raise BadTear(place, hour)
    growth = Growth(record)
    growth.hold(box, place)
    for source, sent, come in _letters_to(record, box):
        if hour <= come <= now:
            growth.hold(source, sent)
    heights = growth.heights()
    # When it is told of its last reading before the tear, it has all of its book back.
    return book_of(record, box, now) if heights[box] >= hour - 1 else Cut(heights)


def whole_at(record, box, place, hour):
    """Gives the least reading at which the box has its book back, or None."""
    check_moment(record, box, hour)
    if not -1 <= place < hour:
        raise BadTear(place, hour)
    growth = Growth(record)
    growth.hold(box, place)
    for reading in range(hour, record.height(box) + 1):
        for source, sent, come in _letters_to(record, box):
            if come == reading:
                growth.hold(source, sent)
        if growth.heights()[box] >= hour - 1:
            return reading
    return None


def _letters_to(record, box):
    """Lists the triples (source, sent, come) of the letters that came to the box."""
    return [(source, sent, come) for source, target, sent, come in record.letters() if target == box]
