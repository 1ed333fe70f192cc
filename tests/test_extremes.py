"""Points 53 and 54: the earliest hours of a table, and its extreme runs."""

import itertools
import random
import unittest

from helpers import Case, acts_of, frozen, random_tables, table_answers
from surerails.driving import drive
from surerails.extremes import earliest_hours, extreme_hours
from surerails.lags import lag
from surerails.lines import Line
from surerails.rules import Honest
from surerails.tables import Table, news_table
from surerails.workings import Working, bounded_chain
from surerails.worlds import World

LINE = Line(2, [(0, 1, 1, 2), (1, 0, 1, 3)])
WORKING = Working(LINE, [("free", 0), ("ride", 1, 0, 2, 4), ("act", 0, [(1, 1)])])
ALONE = Line(1, [])


def slow_hours(table, fixed):
    """Point 53 round by round: an hour that needs k steps is found in the round k; fixed hours stay."""
    working = table.working
    hours = dict(fixed)
    for _ in range(working.size + 1):
        found = {}
        for event in range(working.size):
            options = list(options_of(table, event, hours))
            found[event] = fixed[event] if event in fixed else min(options, default=None)
        hours = found
    return [hours[event] for event in range(working.size)]


def options_of(table, event, hours):
    working = table.working
    if working.kind(event) == "free":
        yield 0
    elif working.kind(event) == "ride":
        cause, low, _ = working.cause(event)
        if hours.get(cause) is not None:
            yield hours[cause] + low
    else:
        for needs in table.rows_of(event):
            numbers = [number_of(working, hours, event, other, wait) for other, wait in needs]
            if None not in numbers:
                yield max(numbers, default=0)


def number_of(working, hours, act, event, wait):
    """The hour of the event plus the lag to the box of the act plus the wait, or None."""
    way = lag(working.line, working.box_of(event), working.box_of(act))
    return None if way is None or hours.get(event) is None else hours[event] + way + wait


def slow_extreme(table, event):
    """Point 54 to the letter."""
    working = table.working
    earliest = slow_hours(table, {})
    if earliest[event] is None:
        return earliest
    chain = bounded_chain(working, event)
    root = chain[-1][0]
    without = dict(enumerate(slow_hours(table, {root: None})))
    numbers = [0, earliest[root]] + [hour for hour in without.values() if hour is not None]
    for act, needs in table.rows():
        for other, wait in needs:
            number = number_of(working, without, act, other, wait)
            if number is not None:
                numbers.append(number)
    fixed = {other: hour for other, hour in without.items() if hour is not None}
    hour = max(numbers) + 1
    fixed[root] = hour
    for (ancestor, _), (cause, _) in zip(reversed(chain[:-1]), reversed(chain)):
        assert working.cause(ancestor)[0] == cause
        hour += working.cause(ancestor)[2]
        fixed[ancestor] = hour
    return slow_hours(table, fixed)


def world_of(table, hours, late):
    """A world in which all is early, but the listed events come late: at their hours."""
    working = table.working
    whims = []
    early = slow_hours(table, {event: hours[event] for event in late})
    for event in range(working.size):
        whim = working.cause(event)[1] if working.cause(event) else 0
        if event in late and working.kind(event) == "ride":
            whim = hours[event] - hours[working.cause(event)[0]]
        elif event in late and working.kind(event) == "free":
            whim = hours[event]
        elif event in late:
            whim = hours[event] - slow_hours(table, {})[event]
        whims.append(whim)
    assert early == hours
    return World(working, [0] * working.line.size, whims, [[low] for _, _, low, _ in working.line.wires()])


class TestEarliest(Case):

    def check(self, working, rows, hours):
        table = Table(working, rows)
        self.assertEqual(earliest_hours(table), hours)
        self.assertEqual(slow_hours(table, {}), hours)

    def test_free_events_rides_and_acts(self):
        self.check(WORKING, [(2, [(0, 3)])], [0, 2, 3])
        self.check(WORKING, [(2, [(1, 1)])], [0, 2, 2 + 1 + 1])
        self.check(WORKING, [(2, [(0, 3), (1, 1)])], [0, 2, 4])
        self.check(WORKING, [(2, [(0, 9), (1, 1)])], [0, 2, 9])
        self.assertEqual(earliest_hours(table=news_table(WORKING)), [0, 2, 4])

    def test_an_act_without_rows(self):
        self.check(WORKING, [], [0, 2, None])

    def test_a_row_without_needs(self):
        self.check(WORKING, [(2, [(1, 1)]), (2, [])], [0, 2, 0])

    def test_the_least_of_several_rows(self):
        self.check(WORKING, [(2, [(1, 9)]), (2, [(0, 4), (1, 1)]), (2, [(0, 5)])], [0, 2, 4])

    def test_a_row_is_left_out_if_there_is_no_way(self):
        working = Working(Line(2, [(0, 1, 4, None)]), [("free", 0), ("act", 1, []), ("free", 1), ("act", 0, [])])
        self.check(working, [(1, [(0, 1)]), (3, [(2, 1)])], [0, 5, 0, None])
        self.check(working, [(3, [(2, 1)]), (3, [(0, 7)])], [0, None, 0, 7])

    def test_a_row_is_left_out_if_an_event_never_happens(self):
        working = Working(ALONE, [("free", 0), ("act", 0, []), ("act", 0, []), ("ride", 0, 1, 1, 2)])
        self.check(working, [(2, [(1, 1)])], [0, None, None, None])
        self.check(working, [(2, [(0, 1), (3, 1)]), (2, [(0, 8)])], [0, None, 8, None])

    def test_events_that_need_each_other(self):
        working = Working(ALONE, [("act", 0, []), ("act", 0, []), ("ride", 0, 1, 1, 2), ("free", 0)])
        self.check(working, [(0, [(2, 1)]), (1, [(0, 1)])], [None, None, None, 0])
        self.check(working, [(0, [(0, 1)]), (1, [(3, 1)])], [None, 1, 2, 0])
        self.check(working, [(0, [(2, 1)]), (1, [(0, 1)]), (1, [(3, 5)])], [7, 5, 6, 0])

    def test_rides_take_their_low_and_unbounded_ones_too(self):
        working = Working(ALONE, [("free", 0), ("ride", 0, 0, 3, None), ("ride", 0, 1, 2, 9), ("act", 0, [])])
        self.check(working, [(3, [(2, 4)])], [0, 3, 5, 9])

    def test_what_is_found_later_may_be_less(self):
        working = Working(ALONE, [("act", 0, []), ("act", 0, []), ("act", 0, []), ("act", 0, [])])
        rows = [(0, [(3, 1)]), (1, [(0, 1)]), (2, [(1, 1)]), (3, []), (2, [(3, 50)]), (1, [(3, 90)]), (0, [(3, 70)])]
        self.check(working, rows, [1, 2, 3, 0])

    def test_at_random(self):
        chance = random.Random(170)
        none = 0
        for table in random_tables(chance, 200):
            hours = earliest_hours(table)
            none += None in hours
            self.assertEqual(hours, slow_hours(table, {}))
        self.assertGreater(none, 50)

    def test_a_drive_reaches_them_and_none_is_earlier(self):
        chance = random.Random(171)
        for table in random_tables(chance, 80):
            hours = earliest_hours(table)
            end = max([hour for hour in hours if hour is not None], default=0) + 1
            record = drive(world_of(table, hours, []), table, end + 9)
            for rule in (table, Honest(table)):
                record = drive(world_of(table, hours, []), rule, end + 9)
                self.assertEqual([record.reading(event) for event in range(table.working.size)], hours)

    def test_in_no_world_with_the_settings_0_an_event_is_earlier(self):
        chance = random.Random(172)
        for table in random_tables(chance, 80):
            working = table.working
            hours = earliest_hours(table)
            whims = [chance.choice([0, 0, 1, 3]) for _ in range(working.size)]
            for event in range(working.size):
                if working.cause(event):
                    whims[event] = working.cause(event)[1]
            lates = [[low, low if high is None else high] for _, _, low, high in working.line.wires()]
            record = drive(World(working, [0] * working.line.size, whims, lates), table, 25)
            for event, reading in record.seen():
                self.assertIsNotNone(hours[event])
                self.assertGreaterEqual(reading, hours[event])


class TestExtreme(Case):

    def check(self, working, rows, event, hours):
        table = Table(working, rows)
        self.assertEqual(extreme_hours(table, event), hours)
        self.assertEqual(slow_extreme(table, event), hours)

    def test_the_example_of_the_document(self):
        self.check(WORKING, [(2, [(0, 3)])], 1, [1, 5, 4])
        self.assertEqual(extreme_hours(table=Table(WORKING, [(2, [(0, 3)])]), event=1), [1, 5, 4])

    def test_a_free_event(self):
        self.check(WORKING, [(2, [(0, 3)])], 0, [1, 3, 4])

    def test_an_event_that_can_happen_without_the_root(self):
        # The act 2 happens at 0 anyway, and nothing else says how late the root is to be.
        self.check(WORKING, [(2, []), (2, [(1, 1)])], 1, [1, 5, 0])

    def test_an_event_that_happens_in_no_run(self):
        self.check(WORKING, [], 2, [0, 2, None])
        working = Working(ALONE, [("act", 0, []), ("ride", 0, 0, 1, 5), ("free", 0), ("act", 0, [])])
        for event in (0, 1):
            self.check(working, [(3, [(2, 4)])], event, [None, None, 0, 4])

    def test_an_act_as_root(self):
        working = Working(ALONE, [("free", 0), ("act", 0, []), ("ride", 0, 1, 2, 6), ("ride", 0, 2, 1, 3), ("act", 0, [])])
        rows = [(1, [(0, 7)]), (4, [(2, 1)])]
        # The last number is 7, the hour of the root.
        for event, hours in ((1, [0, 8, 10, 11, 11]), (2, [0, 8, 14, 15, 15]), (3, [0, 8, 14, 17, 15])):
            self.check(working, rows, event, hours)
        self.check(working, rows, 4, [0, 7, 9, 10, 11])

    def test_an_act_for_itself_comes_later_than_it_could(self):
        self.check(WORKING, [(2, [(0, 3)])], 2, [0, 2, 4])
        working = Working(ALONE, [("free", 0), ("act", 0, []), ("act", 0, [])])
        self.check(working, [(1, [(0, 3)]), (2, [(1, 2)])], 1, [0, 4, 6])

    def test_an_unbounded_ride_as_root(self):
        working = Working(ALONE, [("free", 0), ("ride", 0, 0, 2, None), ("ride", 0, 1, 1, 4), ("ride", 0, 1, 1, 9)])
        self.check(working, [], 2, [0, 3, 7, 4])
        self.check(working, [], 3, [0, 3, 4, 12])
        self.check(working, [], 1, [0, 3, 4, 4])

    def test_the_needs_of_rows_say_how_late_the_root_is(self):
        working = Working(LINE, [("free", 0), ("free", 1), ("act", 0, []), ("act", 1, [])])
        # The number of the need of the act 2 is 0 + 1 + 6; that of the row which is never met counts, too.
        self.check(working, [(2, [(1, 6)])], 0, [8, 0, 7, None])
        self.check(working, [(2, [(1, 6), (3, 1)])], 0, [8, 0, None, None])
        self.check(working, [(2, [(1, 6), (0, 1)])], 0, [8, 0, 9, None])
        self.check(working, [(2, [(0, 50)])], 0, [1, 0, 51, None])
        self.check(Working(Line(2, []), working.events()), [(2, [(1, 6)]), (2, [(0, 1)])], 0, [1, 0, 2, None])

    def test_the_hours_without_the_root_say_how_late_it_is(self):
        working = Working(ALONE, [("free", 0), ("free", 0), ("ride", 0, 1, 30, 40)])
        self.check(working, [], 0, [31, 0, 30])

    def test_other_rides_of_the_chain_take_their_low(self):
        working = Working(ALONE, [("free", 0), ("ride", 0, 0, 1, 5), ("ride", 0, 0, 1, 7), ("ride", 0, 1, 2, 8)])
        self.check(working, [], 1, [1, 6, 2, 8])
        self.check(working, [], 2, [1, 2, 8, 4])
        self.check(working, [], 3, [1, 6, 2, 14])

    def test_at_random(self):
        chance = random.Random(173)
        for table in random_tables(chance, 150):
            for event in range(table.working.size):
                self.assertEqual(extreme_hours(table, event), slow_extreme(table, event))

    def test_a_drive_has_these_hours(self):
        chance = random.Random(174)
        found = 0
        for table in random_tables(chance, 60):
            working = table.working
            for event in range(working.size):
                hours = extreme_hours(table, event)
                if hours[event] is not None:
                    chain = [ancestor for ancestor, _ in bounded_chain(working, event)]
                    end = max(hour for hour in hours if hour is not None) + 4
                    record = drive(world_of(table, hours, chain), table, end)
                    found += hours != earliest_hours(table)
                    self.assertEqual([record.reading(other) for other in range(working.size)], hours)
        self.assertGreater(found, 100)

    def test_no_event(self):
        table = Table(WORKING, [(2, [(0, 3)])])
        for event in (-1, 3, 10 ** 9):
            self.refuses("NoEvent", (event,), lambda: extreme_hours(table, event))

    def test_great_waits(self):
        table = Table(WORKING, [(2, [(0, 10 ** 9)])]).with_waits([0, 0, 10 ** 9])
        self.assertEqual(earliest_hours(table), [0, 2, 2 * 10 ** 9])
        self.assertEqual(extreme_hours(table, 1), [1, 5, 2 * 10 ** 9 + 1])


class TestCopies(Case):

    def test_nothing_is_changed_and_every_list_is_new(self):
        table = Table(WORKING, [(2, [(0, 3)])])
        before = frozen(table_answers(table))
        self.same_after_spoiling(lambda: [earliest_hours(table)] + [extreme_hours(table, event) for event in range(3)])
        self.assertEqual(frozen(table_answers(table)), before)

    def test_acts_of_random_tables_are_known(self):
        # The random tables reach rows without needs, acts without rows and several rows of one act.
        counts = [0, 0, 0]
        for table in itertools.islice(random_tables(random.Random(175), 40), 40):
            for act in acts_of(table.working):
                rows = table.rows_of(act)
                counts[0] += [] in rows
                counts[1] += not rows
                counts[2] += len(rows) > 1
        self.assertGreater(min(counts), 5)


if __name__ == "__main__":
    unittest.main()
