"""Point 56: worlds that show the faults of a table."""

import random
import unittest

from helpers import Case, acts_of, frozen, kept_demands, random_tables, table_answers, world_answers
from surerails.counters import counter_world
from surerails.driving import drive
from surerails.extremes import earliest_hours, extreme_hours
from surerails.lines import Line
from surerails.margins import faults
from surerails.tables import Table, news_table
from surerails.workings import Working
from surerails.worlds import World

LINE = Line(2, [(0, 1, 1, 2), (1, 0, 1, 3)], bounds=[(0, 1, 0)])
WORKING = Working(LINE, [("free", 0), ("ride", 1, 0, 2, 4), ("act", 0, [(1, 1)])])
ALONE = Line(1, [])


class TestCounterWorld(Case):

    def check(self, table, act, event):
        """The point to the letter: the drive of the world breaks the demand. Gives the record."""
        working = table.working
        found = counter_world(table, act, event)
        self.assertIs(type(found), tuple)
        world, hours = found
        self.assertIsInstance(world, World)
        self.assertLessEqual(hours, max(hour for hour in extreme_hours(table, event) if hour is not None) + 1)
        self.assertGreaterEqual(hours, 1)
        record = drive(world, table, hours)
        self.assertIsNotNone(record.reading(act))
        if earliest_hours(table)[event] is None:
            self.assertIsNone(record.reading(event))
        else:
            settings = world.settings()
            begin = settings[working.box_of(event)] + record.reading(event)
            end = settings[working.box_of(act)] + record.reading(act)
            self.assertLess(end - begin, dict(working.demands(act))[event])
        self.assertIs(kept_demands(record, world.settings()), False)
        return record

    def test_an_act_that_comes_too_early(self):
        table = Table(WORKING, [(2, [(0, 3)])])
        self.check(table, 2, 1)
        world, hours = counter_world(table=table, act=2, event=1)
        self.assertEqual(drive(world, table, hours).working.size, 3)

    def test_an_act_that_does_not_wait_for_the_event(self):
        working = Working(LINE, [("free", 0), ("ride", 1, 0, 2, 4), ("act", 0, [(1, 1), (0, 2)]), ("free", 0)])
        for rows in ([(2, [])], [(2, [(3, 9)])], [(2, [(1, 1)]), (2, [(3, 30)])]):
            for event in (0, 1):
                self.check(Table(working, rows), 2, event)

    def test_an_event_that_happens_in_no_run(self):
        working = Working(ALONE, [("free", 0), ("act", 0, []), ("ride", 0, 1, 1, 2), ("act", 0, [(1, 1), (2, 3)])])
        for rows in ([(3, [])], [(3, [(0, 4)])], [(3, [(0, 4)]), (1, [(1, 1)])]):
            for event in (1, 2):
                self.check(Table(working, rows), 3, event)

    def test_an_act_as_root(self):
        working = Working(ALONE, [("free", 0), ("act", 0, []), ("ride", 0, 1, 2, 9), ("act", 0, [(2, 1), (1, 7)])])
        for rows in ([(1, [(0, 5)]), (3, [(1, 6)])], [(1, [(0, 5)]), (3, [(0, 6)])], [(1, []), (3, [(0, 1), (1, 2)])]):
            for event in (1, 2):
                self.check(Table(working, rows), 3, event)

    def test_an_act_that_demands_itself_or_what_it_draws(self):
        working = Working(ALONE, [("free", 0), ("act", 0, [(1, 1), (2, 1)]), ("ride", 0, 1, 2, 9)])
        for event in (1, 2):
            self.check(Table(working, [(1, [(0, 4)])]), 1, event)

    def test_an_unbounded_ride_as_root(self):
        events = [("free", 0), ("ride", 0, 0, 3, None), ("ride", 0, 1, 2, 5), ("act", 0, [(2, 4), (1, 9), (0, 40)])]
        for rows in ([(3, [(1, 8)])], [(3, [(0, 20)])], [(3, [(2, 3)])]):
            table = Table(Working(ALONE, events), rows)
            for act, event in faults(table):
                self.check(table, act, event)

    def test_all_faults_of_random_tables(self):
        chance = random.Random(210)
        found = 0
        for table in random_tables(chance, 160):
            for act, event in faults(table):
                self.check(table, act, event)
                found += 1
        self.assertGreater(found, 100)

    def test_there_is_none_for_what_is_no_fault(self):
        chance = random.Random(211)
        for table in random_tables(chance, 60):
            wrong = faults(table)
            for act in acts_of(table.working):
                for event in range(table.working.size):
                    if (act, event) not in wrong:
                        self.refuses("NoFault", (act, event), lambda: counter_world(table, act, event))

    def test_the_errors_in_their_order(self):
        table = Table(WORKING, [(2, [(0, 3)])])
        for act in (-1, 3):
            self.refuses("NoEvent", (act,), lambda: counter_world(table, act, -7))
        for act in (0, 1):
            self.refuses("NotAct", (act,), lambda: counter_world(table, act, -7))
        for event in (-7, 3):
            self.refuses("NoEvent", (event,), lambda: counter_world(table, 2, event))
        for event in (0, 2):
            self.refuses("NoFault", (2, event), lambda: counter_world(table, 2, event))
        self.refuses("NoFault", (2, 1), lambda: counter_world(news_table(WORKING), 2, 1))
        self.refuses("NoFault", (2, 1), lambda: counter_world(Table(WORKING, []), 2, 1))


class TestCopies(Case):

    def test_nothing_is_changed_and_every_list_is_new(self):
        table = Table(WORKING, [(2, [(0, 3)])])
        before = frozen(table_answers(table))
        self.same_after_spoiling(lambda: world_answers(counter_world(table, 2, 1)[0]))
        world, hours = counter_world(table, 2, 1)
        self.same_after_spoiling(lambda: world_answers(world) + [hours])
        self.assertEqual(frozen(table_answers(table)), before)


if __name__ == "__main__":
    unittest.main()
