"""Points 58 and 59: the latest hours of the events, promises, and the worst world."""

import itertools
import random
import unittest

from helpers import (
    Case, acts_of, frozen, random_table, random_tables, random_world, random_working, spoil, table_answers,
    working_answers, world_answers,
)
from surerails.driving import drive
from surerails.freest import Freest
from surerails.lags import lag
from surerails.latest import broken_promises, latest_hours, worst_world
from surerails.lines import Line
from surerails.margins import is_safe_table
from surerails.rules import Honest
from surerails.tables import Table, news_table
from surerails.workings import Working
from surerails.worlds import World

LINE = Line(2, [(0, 1, 1, 2), (1, 0, 1, 3)])
WORKING = Working(LINE, [("free", 0), ("ride", 1, 0, 2, 4), ("act", 0, [(1, 1)])])
ALONE = Line(1, [])


def slow_latest(table):
    """Point 58 round by round: an hour that needs k steps is found in the round k."""
    working = table.working
    hours = {}
    for _ in range(working.size + 1):
        found = {}
        for event in range(working.size):
            options = list(late_options(table, event, hours))
            if options:
                found[event] = min(options)
        hours = found
    return [hours.get(event) for event in range(working.size)]


def late_options(table, event, hours):
    working = table.working
    if working.kind(event) == "free":
        yield 0
    elif working.kind(event) == "ride":
        cause, _, high = working.cause(event)
        if cause in hours and high is not None:
            yield hours[cause] + high
    else:
        for needs in table.rows_of(event):
            ways = [lag(working.line, working.box_of(other), working.box_of(event), late=True) for other, _ in needs]
            if None not in ways and all(other in hours for other, _ in needs):
                yield max([hours[other] + way + wait for (other, wait), way in zip(needs, ways)], default=0)


def timely_world(chance, working):
    """A world in which every free event happens, every ride comes and all pauses are 0; also the number B."""
    world = None
    while world is None:
        world = random_world(chance, working, latest=3)
    settings, whims = world.settings(), world.whims()
    for event in range(working.size):
        link = working.cause(event)
        if link is not None and whims[event] is None:
            whims[event] = link[1] + chance.randint(0, 9)
        elif link is None and (whims[event] is None or working.kind(event) == "act"):
            whims[event] = 0
    hours = [settings[working.box_of(event)] + whim for event, whim in enumerate(whims)
             if working.kind(event) == "free"]
    return World(working, settings, whims, world.lates()), max(settings + hours)


class TestLatestHours(Case):

    def check(self, working, rows, hours):
        table = Table(working, rows)
        self.assertEqual(latest_hours(table), hours)
        self.assertEqual(slow_latest(table), hours)
        self.same_in_the_worst_world(table)

    def same_in_the_worst_world(self, table):
        """Point 59: each event comes exactly at its hour in the drive of the worst world, or never."""
        hours = latest_hours(table)
        end = max([hour for hour in hours if hour is not None], default=0)
        record = drive(worst_world(table.working), table, end + 9)
        self.assertEqual([record.reading(event) for event in range(table.working.size)], hours)

    def test_free_events_rides_and_acts(self):
        self.check(WORKING, [(2, [(1, 1)])], [0, 4, 4 + 3 + 1])
        self.check(WORKING, [(2, [(0, 3)])], [0, 4, 3])
        self.check(WORKING, [(2, [(0, 9), (1, 1)])], [0, 4, 9])
        self.assertEqual(latest_hours(table=news_table(WORKING)), [0, 4, 8])

    def test_an_act_without_rows_and_a_row_without_needs(self):
        self.check(WORKING, [], [0, 4, None])
        self.check(WORKING, [(2, [(1, 1)]), (2, [])], [0, 4, 0])

    def test_the_least_of_several_rows(self):
        self.check(WORKING, [(2, [(1, 1)]), (2, [(0, 7)]), (2, [(0, 6), (1, 1)])], [0, 4, 7])

    def test_unbounded_rides(self):
        working = Working(ALONE, [
            ("free", 0), ("ride", 0, 0, 3, None), ("ride", 0, 1, 2, 9), ("act", 0, []), ("ride", 0, 3, 1, 6),
        ])
        self.check(working, [(3, [(2, 4)])], [0, None, None, None, None])
        self.check(working, [(3, [(2, 4)]), (3, [(0, 8)])], [0, None, None, 8, 14])

    def test_unbounded_wires(self):
        line = Line(3, [(0, 1, 1, None), (1, 2, 2, 5), (0, 2, 4, 9)])
        working = Working(line, [("free", 0), ("act", 1, []), ("act", 2, []), ("free", 1), ("act", 2, [])])
        self.check(working, [(1, [(0, 1)]), (2, [(0, 1)]), (4, [(3, 2), (0, 1)])], [0, None, 10, 0, 10])
        self.check(working, [(1, [(0, 1)]), (1, [(3, 4)]), (2, [(1, 1)])], [0, 4, 10, 0, None])

    def test_the_least_sum_of_the_highs(self):
        line = Line(3, [(0, 1, 1, 9), (1, 2, 1, 9), (0, 2, 12, 17)])
        working = Working(line, [("free", 0), ("act", 2, [])])
        self.check(working, [(1, [(0, 1)])], [0, 18])

    def test_events_that_need_each_other(self):
        working = Working(ALONE, [("act", 0, []), ("act", 0, []), ("ride", 0, 1, 1, 2), ("free", 0)])
        self.check(working, [(0, [(2, 1)]), (1, [(0, 1)])], [None, None, None, 0])
        self.check(working, [(0, [(0, 1)]), (1, [(3, 1)])], [None, 1, 3, 0])
        self.check(working, [(0, [(2, 1)]), (1, [(0, 1)]), (1, [(3, 5)])], [8, 5, 7, 0])
        self.check(working, [(0, [(2, 1)]), (1, [(0, 1)]), (0, [(3, 5)])], [5, 6, 8, 0])

    def test_what_is_found_later_may_be_less(self):
        working = Working(ALONE, [("act", 0, []), ("act", 0, []), ("act", 0, []), ("act", 0, [])])
        rows = [(0, [(3, 1)]), (1, [(0, 1)]), (2, [(1, 1)]), (3, []), (2, [(3, 50)]), (1, [(3, 90)]), (0, [(3, 70)])]
        self.check(working, rows, [1, 2, 3, 0])

    def test_at_random(self):
        chance = random.Random(230)
        none = 0
        for table in random_tables(chance, 200):
            hours = latest_hours(table)
            none += None in hours
            self.assertEqual(hours, slow_latest(table))
            self.same_in_the_worst_world(table)
        self.assertGreater(none, 50)

    def test_against_all_small_worlds(self):
        # The greatest hour over all worlds in which what may be unbounded never comes.
        chance = random.Random(231)
        found = 0
        for table in random_tables(chance, 200, boxes=2, events=5):
            working = table.working
            links = [working.cause(event) for event in range(working.size)]
            whims = [[0] if link is None else [None] if link[2] is None else sorted({link[1], link[2]}) for link in links]
            lates = [[[None]] if high is None else [[low], [high]] for _, _, low, high in working.line.wires()]
            hours = [set() for _ in links]
            for row in itertools.product(*whims):
                for late in itertools.product(*lates):
                    record = drive(World(working, [0] * working.line.size, row, late), table, 40)
                    for event in range(working.size):
                        hours[event].add(record.reading(event))
            for event, hour in enumerate(latest_hours(table)):
                if hour is None:
                    self.assertIn(None, hours[event])
                else:
                    found += len(hours[event]) > 1
                    self.assertEqual(max(hours[event]), hour)
        self.assertGreater(found, 8)

    def test_in_no_timely_world_an_event_is_later(self):
        chance = random.Random(232)
        met = 0
        for table in random_tables(chance, 250):
            world, begin = timely_world(chance, table.working)
            self.not_later(world, table, latest_hours(table), begin)
            met += len(acts_of(table.working))
        self.assertGreater(met, 100)

    def test_nor_under_the_freest_rule_if_the_table_is_safe(self):
        chance = random.Random(233)
        found = 0
        for table in random_tables(chance, 300):
            mixed = Table(table.working, news_table(table.working).rows() + table.rows())
            for safe in (table, mixed, news_table(table.working)):
                if is_safe_table(safe) and safe.rows():
                    found += 1
                    world, begin = timely_world(chance, table.working)
                    self.not_later(world, Freest(), latest_hours(safe), begin)
        self.assertGreater(found, 100)

    def not_later(self, world, rule, hours, begin):
        working, settings = world.working, world.settings()
        latest = begin + max([hour for hour in hours if hour is not None], default=0)
        record = drive(world, rule, latest - min(settings) + 1)
        for event, hour in enumerate(hours):
            if hour is not None:
                self.assertIsNotNone(record.reading(event))
                self.assertLessEqual(settings[working.box_of(event)] + record.reading(event), begin + hour)


class TestPromises(Case):

    def test_kept_and_broken_ones(self):
        table = Table(WORKING, [(2, [(1, 1)])])
        self.assertEqual(broken_promises(table, []), [])
        self.assertEqual(broken_promises(table, [(2, 8), (2, 7), (0, 0), (0, -1), (1, 3), (2, -9), (1, 4)]), [
            (1, 1), (3, 1), (4, 1), (5, 17),
        ])
        self.assertEqual(broken_promises(table=table, promises=[(2, 8)]), [])

    def test_what_may_never_come(self):
        table = Table(WORKING, [])
        self.assertEqual(broken_promises(table, [(2, 10 ** 9), (1, 4), (2, 0)]), [(0, None), (2, None)])

    def test_against_the_latest_hours(self):
        chance = random.Random(234)
        for table in random_tables(chance, 60):
            hours = latest_hours(table)
            promises = [(chance.randrange(table.working.size), chance.randint(-2, 14)) for _ in range(12)]
            broken = dict(broken_promises(table, promises))
            self.assertEqual(list(broken), sorted(broken))
            for index, (event, hour) in enumerate(promises):
                if hours[event] is None:
                    self.assertEqual(broken.get(index, "kept"), None)
                elif hours[event] > hour:
                    self.assertEqual(broken[index], hours[event] - hour)
                else:
                    self.assertNotIn(index, broken)

    def test_a_promise_without_an_event(self):
        table = Table(WORKING, [])
        for event in (-1, 3):
            self.refuses("NoEvent", (event,), lambda: broken_promises(table, [(2, 1), (event, 5), (9, 5)]))


class TestWorstWorld(Case):

    def test_what_it_says(self):
        line = Line(3, [(1, 0, 1, 3), (0, 1, 2, 2), (1, 2, 4, None)], bounds=[(0, 1, 0)])
        working = Working(line, [("free", 0), ("ride", 1, 0, 2, 4), ("act", 0, [(1, 1)]), ("ride", 0, 2, 3, None)])
        world = worst_world(working=working)
        self.assertIsInstance(world, World)
        self.assertEqual(world.settings(), [0, 0, 0])
        self.assertEqual(world.whims(), [0, 4, 0, None])
        self.assertEqual(world.lates(), [[2], [3], [None]])
        self.assertEqual(working_answers(world.working), working_answers(working))

    def test_at_random(self):
        chance = random.Random(235)
        for table in random_tables(chance, 40):
            working = table.working
            world = worst_world(working)
            self.assertEqual(world.settings(), [0] * working.line.size)
            self.assertEqual(world.lates(), [[high] for _, _, _, high in working.line.wires()])
            for event, whim in enumerate(world.whims()):
                self.assertEqual(whim, working.cause(event)[2] if working.cause(event) else 0)

    def test_honest_tables_are_no_later_there(self):
        chance = random.Random(236)
        for table in random_tables(chance, 40):
            end = max([hour for hour in latest_hours(table) if hour is not None], default=0) + 3
            world = worst_world(table.working)
            self.assertEqual(drive(world, Honest(table), end).seen(), drive(world, table, end).seen())


class TestCopies(Case):

    def test_nothing_is_changed_and_every_list_is_new(self):
        chance = random.Random(237)
        working = random_working(chance, LINE, 7)
        for table in (Table(WORKING, [(2, [(0, 3)])]), random_table(chance, working)):
            before = frozen(table_answers(table))
            promises = [(0, -1), (1, 2), (2, 9)]
            self.same_after_spoiling(lambda: [latest_hours(table), broken_promises(table, promises)])
            self.assertEqual(promises, [(0, -1), (1, 2), (2, 9)])
            self.same_after_spoiling(lambda: world_answers(worst_world(table.working)))
            world = worst_world(table.working)
            self.same_after_spoiling(lambda: world_answers(world))
            self.assertEqual(frozen(table_answers(table)), before)
            spoil(promises)


if __name__ == "__main__":
    unittest.main()
