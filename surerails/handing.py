"""What an act may count on if boxes hand over their books."""

from surerails.books import books_together
from surerails.checks import check_act
from surerails.clocks import checked_clocks
from surerails.errors import AlreadyDone, NotOpen
from surerails.freest import refusal
from surerails.lines import check_box


def refusal_with(record, act, boxes):
    """Gives what refuses the act, if the books of its own box and the listed ones are laid side by side, or None."""
    _check_undone(record, act)
    for box in boxes:
        check_box(record.line, box)
    checked_clocks(record)
    return _refusal_with(record, act, boxes)


def fewest_books(record, act):
    """Lists the fewest other boxes whose books are enough for the act, or gives None if all are not enough."""
    _check_undone(record, act)
    checked_clocks(record)
    here = record.working.box_of(act)
    others = [box for box in range(record.line.size) if box != here and record.height(box) >= 0]
    # More books never make an act less sure.
    if _refusal_with(record, act, others) is not None:
        return None
    choices = [[]]
    for box in others:
        choices = choices + [choice + [box] for choice in choices]
    for _, choice in sorted([(len(boxes), boxes) for boxes in choices]):
        if _refusal_with(record, act, choice) is None:
            return choice
    return others


def _check_undone(record, act):
    """Raises the errors of an act that is done already or whose box has not begun to work."""
    working = record.working
    check_act(working, act)
    if record.reading(act) is not None:
        raise AlreadyDone(act)
    box = working.box_of(act)
    if record.height(box) < 0:
        raise NotOpen(box)


def _refusal_with(record, act, boxes):
    here = record.working.box_of(act)
    moments = [(box, record.height(box)) for box in [here] + list(boxes) if record.height(box) >= 0]
    part = record.part(books_together(record, moments))
    return refusal(part, record.height(here), act)
