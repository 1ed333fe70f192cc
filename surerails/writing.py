"""The written form of workings and records."""


def format_working(working):
    """Writes a working as a text."""
    return _text_of(_working_rows(working))


def format_record(record):
    """Writes a record, with its working, as a text."""
    rows = _working_rows(record.working)
    rows.append(["heights"] + ["none" if height == -1 else height for height in record.heights()])
    rows.extend([["seen", event, reading] for event, reading in record.seen()])
    rows.extend([["letter", source, target, sent, come] for source, target, sent, come in record.letters()])
    return _text_of(rows)


def _working_rows(working):
    line = working.line
    rows = [["boxes", line.size]]
    rows.extend([["wire", source, target, low, _high(high)] for source, target, low, high in line.wires()])
    rows.extend([["bound", later, earlier, most] for later, earlier, most in line.bounds()])
    rows.append(["events", working.size])
    rows.extend([_event_row(event) for event in working.events()])
    return rows


def _event_row(event):
    if event[0] == "ride":
        _, box, cause, low, high = event
        return ["ride", box, cause, low, _high(high)]
    if event[0] == "act":
        return ["act", event[1]] + [number for demand in event[2] for number in demand]
    return ["free", event[1]]


def _high(high):
    return "never" if high is None else high


def _text_of(rows):
    return "".join([" ".join([f"{word}" for word in row]) + "\n" for row in rows])
