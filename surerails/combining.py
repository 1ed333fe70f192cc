"""Tables made of two tables, and whether one allows whatever the other allows."""

from surerails.tables import Table


def covers(first, second):
    """Tells whether each row of the second table asks for no less than some row of the first."""
    return all([
        any([_asks_for_no_less(needs, wished) for wished in first.rows_of(act)]) for act, needs in second.rows()
    ])


def merge_tables(first, second):
    """Gives the table that allows what one of the two tables allows."""
    return Table(first.working, first.rows() + second.rows())


def cross_tables(first, second):
    """Gives the table that allows what both tables allow."""
    rows = []
    for act, needs in first.rows():
        for others in second.rows_of(act):
            rows.append((act, _both_needs(needs, others)))
    return Table(first.working, rows)


def _asks_for_no_less(needs, wished):
    waits = dict(needs)
    return all([event in waits and waits[event] >= wait for event, wait in wished])


def _both_needs(needs, others):
    waits = dict(needs)
    for event, wait in others:
        waits[event] = max(wait, waits.get(event, wait))
    return list(waits.items())
