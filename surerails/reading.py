"""Reading workings and records from their written form."""

from surerails.lines import Line
from surerails.records import Record
from surerails.texts import Page
from surerails.workings import Working


def parse_working(text):
    """Gives the working with this written form."""
    page = Page(text)
    size, wires, bounds, events = _working_parts(page)
    page.check_end()
    return Working(Line(size, wires, bounds=bounds), events)


def parse_record(text):
    """Gives the record with this written form."""
    page = Page(text)
    size, wires, bounds, events = _working_parts(page)
    heights = page.take("heights", ["height"] * size)
    seen = page.take_ascending("seen", ["number"] * 2, 1)
    letters = page.take_ascending("letter", ["number"] * 4, 3)
    page.check_end()
    working = Working(Line(size, wires, bounds=bounds), events)
    return Record(working, heights, seen=seen, letters=letters)


def _working_parts(page):
    """Reads the lines of a working; gives the size, the wires, the clock bounds and the events."""
    size = page.take("boxes", ["count"])[0]
    wires = page.take_ascending("wire", ["number", "number", "number", "high"], 2)
    bounds = page.take_ascending("bound", ["number"] * 3, 2)
    count = page.take("events", ["count"])[0]
    return (size, wires, bounds, [_take_event(page) for _ in range(count)])


def _take_event(page):
    if page.is_next("free"):
        return ("free", page.take("free", ["number"])[0])
    if page.is_next("ride"):
        box, cause, low, high = page.take("ride", ["number", "number", "number", "high"])
        return ("ride", box, cause, low, high)
    numbers = page.take("act", ["number"] * page.words_ahead())
    events, waits = numbers[1::2], numbers[2::2]
    if len(numbers) % 2 == 0 or sorted(set(events)) != events:
        page.refuse()
    return ("act", numbers[0], list(zip(events, waits)))
