"""Runs of a table in which each event comes as early as it can, or as late as it must.

Here an hour is a pair: (0, hour), or (1, hours) for what cannot come without the root of some event, which comes
when everything else is done; these hours are counted from the root.
"""

from surerails.lags import lag
from surerails.workings import bounded_chain


class Runs:
    """The runs of a table with the settings 0 in which each event comes as early as it can.

    The attributes are working; rows, what each event follows (rows_by_event); and earliest, the hours of the
    events that happen in some run.
    """

    def __init__(self, table):
        self.working = table.working
        self.rows = rows_by_event(table, False)
        self.earliest = hours_with(self.rows, {})
        self._extremes = {}

    def extreme(self, event):
        """Gives the hours in the run in which the root of the event comes last; the event happens in some run."""
        if event not in self._extremes:
            self._extremes[event] = hours_with(self.rows, chain_hours(self.working, event))
        return self._extremes[event]


def rows_by_event(table, late):
    """Lists for each event its rows of pairs (other, hours): it follows all others of one row by these hours.

    What takes from its low to its high takes its low, or, late, its high; what has no high then never comes.
    """
    working = table.working
    lags = all_lags(working.line, late)
    rows = [_fixed_rows(working, event, late) for event in range(working.size)]
    for act, needs in table.rows():
        ways = [(working.box_of(event), working.box_of(act)) for event, _ in needs]
        if all([way in lags for way in ways]):
            rows[act].append([(event, lags[way] + wait) for (event, wait), way in zip(needs, ways)])
    return rows


def hours_with(rows, fixed):
    """Gives the least hour of each event that happens; the fixed events have hours of their own."""
    numbered = [(event, row) for event, options in enumerate(rows) for row in options]
    uses = _uses_by_event(len(rows), numbered)
    missing = [len(row) for _, row in numbered]
    waiting = {event: (0, 0) for event, row in numbered if not row}
    waiting.update(fixed)
    found = {}
    while waiting:
        # Whatever follows comes later, so the hour of the first one of them is final.
        first = min([(hour, event) for event, hour in waiting.items()])[1]
        found[first] = waiting.pop(first)
        for number in uses[first]:
            missing[number] -= 1
            event, row = numbered[number]
            if missing[number] == 0 and event not in fixed and event not in found:
                least = _row_hour(row, found, 0)
                waiting[event] = min(least, waiting.get(event, least))
    return found


def hour_after(options, found, extra):
    """Gives the least hour at which an event can follow what is found, with extra hours more, or None."""
    whole = [row for row in options if all([other in found for other, _ in row])]
    return min([_row_hour(row, found, extra) for row in whole], default=None)


def chain_hours(working, event):
    """Gives the hours of the event and its bounded chain if each comes as late as it can after the root."""
    chain = bounded_chain(working, event)
    return {ancestor: (1, chain[-1][1] - hours) for ancestor, hours in chain}


def all_lags(line, late):
    """Gives the lag between each two boxes that are joined by a way."""
    pairs = [(source, target) for source in range(line.size) for target in range(line.size)]
    found = {pair: lag(line, pair[0], pair[1], late=late) for pair in pairs}
    return {pair: hours for pair, hours in found.items() if hours is not None}


def _fixed_rows(working, event, late):
    """Lists the rows that an event has without the table."""
    kind = working.kind(event)
    if kind == "act":
        return []
    if kind == "free":
        return [[]]
    cause, low, high = working.cause(event)
    hours = high if late else low
    return [] if hours is None else [[(cause, hours)]]


def _row_hour(row, found, extra):
    """Gives the least hour behind all others of a row, with extra hours more."""
    return max([(0, 0)] + [(found[other][0], found[other][1] + hours + extra) for other, hours in row])


def _uses_by_event(size, numbered):
    """Lists for each event the numbers of the rows in which it stands."""
    uses = [[] for _ in range(size)]
    for number, (_, row) in enumerate(numbered):
        for other, _ in row:
            uses[other].append(number)
    return uses
