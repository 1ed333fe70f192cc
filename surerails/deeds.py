"""The written form of deeds."""

from surerails.texts import Page


def format_deeds(deeds):
    """Writes a list of deeds as a text."""
    lines = []
    for deed in deeds:
        lines.append(f"{deed[0]} {deed[1]}\n")
        if deed[0] == "tick":
            lines.extend([f"come {source} {sent}\n" for source, sent in deed[2]])
            lines.extend([f"see {event}\n" for event in deed[3]])
    return "".join(lines)


def parse_deeds(text):
    """Lists the deeds with this written form."""
    page = Page(text)
    deeds = []
    while not page.is_at_end():
        if page.is_next("tick"):
            deeds.append(_take_tick(page))
        else:
            deeds.append(("act", page.take("act", ["number"])[0]))
    return deeds


def _take_tick(page):
    box = page.take("tick", ["number"])[0]
    letters = []
    while page.is_next("come"):
        source, sent = page.take("come", ["number"] * 2)
        letters.append((source, sent))
    events = []
    while page.is_next("see"):
        events.append(page.take("see", ["number"])[0])
    return ("tick", box, tuple(letters), tuple(events))
