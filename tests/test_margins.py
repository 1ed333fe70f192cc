"""Points 55 and 56: by how many hours an act follows an event, and the demands that a table does not keep."""

import itertools
import random
import unittest

from helpers import Case, acts_of, frozen, kept_demands, random_table, random_tables, random_worlds, table_answers
from surerails.driving import drive
from surerails.extremes import earliest_hours, extreme_hours
from surerails.lines import Line
from surerails.margins import faults, is_safe_table, margin
from surerails.rules import Honest
from surerails.tables import Table, news_table
from surerails.workings import Working, bounded_chain

LINE = Line(2, [(0, 1, 1, 2), (1, 0, 1, 3)])
WORKING = Working(LINE, [("free", 0), ("ride", 1, 0, 2, 4), ("act", 0, [(1, 1)])])
ALONE = Line(1, [])
LONG = 40


def hours_in_world(table, whims, lates):
    """The hours of the events of a run whose settings are 0, found hour by hour; each wire has one lateness."""
    working = table.working
    ways = least_ways(working.line, lates)
    hours = {}
    allowed = {}
    for hour in range(4 * LONG):
        for event in range(working.size):
            whim, link = whims[event], working.cause(event)
            if event in hours or whim is None:
                continue
            if working.kind(event) == "free":
                comes = hour == whim
            elif link is not None:
                comes = hours.get(link[0], hour) + whim == hour and link[0] in hours
            else:
                if any(is_met(working, ways, hours, event, needs, hour) for needs in table.rows_of(event)):
                    allowed.setdefault(event, hour)
                comes = event in allowed and allowed[event] + whim == hour
            if comes:
                hours[event] = hour
    return hours


def is_met(working, ways, hours, act, needs, hour):
    for event, wait in needs:
        way = ways.get((working.box_of(event), working.box_of(act)))
        if way is None or event not in hours or hours[event] + way + wait > hour:
            return False
    return True


def least_ways(line, lates):
    """The hours of a letter from each box to each other one, over wires with these lates; None never comes."""
    boxes = range(line.size)
    ways = {(box, box): 0 for box in boxes}
    for (source, target, _, _), late in zip(line.wires(), lates):
        if late is not None:
            ways[source, target] = late
    for middle, first, second in itertools.product(boxes, repeat=3):
        if (first, middle) in ways and (middle, second) in ways:
            length = ways[first, middle] + ways[middle, second]
            ways[first, second] = min(length, ways.get((first, second), length))
    return ways


def small_worlds(working):
    """Whims and lates of runs in which all comes at once, late, very late or never, as it may."""
    choices = []
    for event in range(working.size):
        link = working.cause(event)
        if link is None:
            choices.append([0, LONG, None])
        else:
            choices.append([link[1], link[1] + LONG, None] if link[2] is None else sorted({link[1], link[2]}))
    wires = [[low, low + 7 if high is None else high] for _, _, low, high in working.line.wires()]
    for whims in itertools.product(*choices):
        for lates in itertools.product(*wires):
            yield whims, lates


def slow_margin(table, runs, act, event):
    """Point 55 by a search over the runs of small_worlds."""
    behind = [(hours[act], hours.get(event)) for hours in runs if act in hours]
    if not behind:
        return ("never", 0)
    if any(hour is None for _, hour in behind):
        return ("any", 0)
    return ("least", min(hour - before for hour, before in behind))


class TestMargin(Case):

    def check(self, working, rows, act, event, expected):
        self.assertEqual(margin(Table(working, rows), act, event), expected)

    def test_the_example_of_the_document(self):
        table = Table(WORKING, [(2, [(0, 3)])])
        self.assertEqual(margin(table, 2, 1), ("least", -1))
        self.assertEqual(faults(table), [(2, 1)])
        self.assertEqual(margin(news_table(WORKING), 2, 1), ("least", 2))
        self.assertEqual(margin(table=table, act=2, event=1), ("least", -1))
        self.assertIs(type(margin(table, 2, 1)), tuple)

    def test_an_act_that_happens_in_no_run(self):
        for event in range(3):
            self.check(WORKING, [], 2, event, ("never", 0))
            self.check(WORKING, [(2, [(2, 1)])], 2, event, ("never", 0))
        working = Working(ALONE, [("act", 0, []), ("act", 0, [])])
        self.check(working, [(0, [(1, 1)]), (1, [(0, 1)])], 0, 1, ("never", 0))
        apart = Working(Line(2, []), [("free", 0), ("act", 1, [])])
        self.check(apart, [(1, [(0, 1)])], 1, 0, ("never", 0))

    def test_an_event_that_happens_in_no_run(self):
        working = Working(ALONE, [("act", 0, []), ("act", 0, []), ("ride", 0, 1, 1, 2), ("free", 0)])
        for event in (1, 2):
            self.check(working, [(0, [(3, 4)])], 0, event, ("any", 0))
            self.check(working, [(0, [(3, 4)]), (0, [(1, 4)])], 0, event, ("any", 0))
        # Both happen in no run.
        self.check(working, [(0, [(0, 1)])], 0, 1, ("never", 0))

    def test_an_act_that_can_happen_without_the_root(self):
        working = Working(ALONE, [("free", 0), ("ride", 0, 0, 1, 2), ("act", 0, []), ("free", 0)])
        self.check(working, [(2, [(0, 1)]), (2, [(3, 1)])], 2, 1, ("any", 0))
        self.check(working, [(2, [(0, 1)]), (2, [])], 2, 1, ("any", 0))
        self.check(working, [(2, [(0, 1), (3, 1)])], 2, 1, ("least", -1))

    def test_the_chain_ends_at_an_unbounded_ride(self):
        working = Working(ALONE, [("free", 0), ("ride", 0, 0, 1, None), ("ride", 0, 1, 3, 8), ("act", 0, [])])
        self.check(working, [(3, [(0, 9)])], 3, 2, ("any", 0))
        self.check(working, [(3, [(1, 9)])], 3, 2, ("least", 1))
        self.check(working, [(3, [(1, 9)])], 3, 1, ("least", 9))
        self.check(working, [(3, [(1, 9)])], 3, 0, ("least", 10))
        self.check(working, [(3, [(2, 2)])], 3, 0, ("least", 6))

    def test_an_act_behind_itself_and_before_what_it_draws(self):
        working = Working(ALONE, [("act", 0, []), ("ride", 0, 0, 2, 5), ("ride", 0, 1, 2, 6)])
        for event, hours in enumerate((0, -5, -11)):
            self.check(working, [(0, [])], 0, event, ("least", hours))

    def test_the_least_of_several_rows(self):
        working = Working(LINE, [("free", 0), ("ride", 1, 0, 2, 4), ("act", 1, [])])
        self.check(working, [(2, [(0, 6)]), (2, [(1, 3)]), (2, [(0, 1), (1, 1)])], 2, 1, ("least", 1))
        self.check(working, [(2, [(0, 6)]), (2, [(1, 4)])], 2, 1, ("least", 3))
        self.check(working, [(2, [(0, 6)]), (2, [(1, 3)])], 2, 0, ("least", 5))

    def test_ways_over_the_line_and_none(self):
        line = Line(3, [(0, 1, 2, None), (1, 2, 3, 3), (0, 2, 6, 6)])
        working = Working(line, [("free", 0), ("act", 2, []), ("act", 0, [])])
        self.check(working, [(1, [(0, 4)])], 1, 0, ("least", 9))
        self.check(working, [(1, [(0, 4)]), (2, [(1, 1)])], 2, 0, ("never", 0))

    def test_acts_that_need_each_other(self):
        working = Working(ALONE, [("free", 0), ("act", 0, []), ("act", 0, [])])
        rows = [(1, [(2, 1)]), (2, [(1, 1)]), (1, [(0, 5)])]
        for act, event, expected in ((1, 0, 5), (2, 0, 6), (2, 1, 1)):
            self.check(working, rows, act, event, ("least", expected))
        # The act 1 is done without having heard of the act 2.
        self.check(working, rows, 1, 2, ("any", 0))

    def test_against_a_search_over_small_runs(self):
        chance = random.Random(200)
        counts = {"never": 0, "any": 0, "least": 0}
        for table in random_tables(chance, 90, boxes=2, events=5):
            working = table.working
            runs = [hours_in_world(table, whims, lates) for whims, lates in small_worlds(working)]
            for act in acts_of(working):
                for event in range(working.size):
                    found = margin(table, act, event)
                    counts[found[0]] += 1
                    self.assertEqual(found, slow_margin(table, runs, act, event))
        self.assertGreater(min(counts.values()), 20)

    def test_one_run_decides(self):
        chance = random.Random(201)
        for table in random_tables(chance, 60):
            working = table.working
            earliest = earliest_hours(table)
            for act in acts_of(working):
                for event in range(working.size):
                    kind, hours = margin(table, act, event)
                    self.assertIs(kind == "never", earliest[act] is None)
                    if kind == "least":
                        extreme = extreme_hours(table, event)
                        self.assertEqual(hours, extreme[act] - extreme[event])

    def test_in_every_drive_it_is_kept(self):
        chance = random.Random(202)
        met = 0
        for world in random_worlds(chance, 120):
            table = random_table(chance, world.working)
            settings = world.settings()
            record = drive(world, table, 14)
            hours = {event: settings[world.working.box_of(event)] + at for event, at in record.seen()}
            for act in acts_of(world.working):
                for event in range(world.working.size if act in hours else 0):
                    kind, least = margin(table, act, event)
                    self.assertNotEqual(kind, "never")
                    if kind == "least" and event in hours:
                        met += hours[act] - hours[event] == least
                        self.assertGreaterEqual(hours[act] - hours[event], least)
                    elif kind == "least":
                        # The event happens, but perhaps behind the end of the drive.
                        root = bounded_chain(world.working, event)[-1][0]
                        self.assertIn(root, hours)
        self.assertGreater(met, 50)

    def test_the_errors_in_their_order(self):
        table = Table(WORKING, [(2, [(0, 3)])])
        for act in (-1, 3):
            self.refuses("NoEvent", (act,), lambda: margin(table, act, -7))
        for act in (0, 1):
            self.refuses("NotAct", (act,), lambda: margin(table, act, -7))
        for event in (-7, 3):
            self.refuses("NoEvent", (event,), lambda: margin(table, 2, event))


class TestFaults(Case):

    def test_a_margin_that_is_exactly_the_wait_and_one_hour_less(self):
        working = Working(LINE, [("free", 0), ("ride", 1, 0, 2, 4), ("act", 0, [(1, 4), (0, 9)])])
        for wait, margins, expected in ((3, (4, 6), [(2, 0)]), (2, (3, 5), [(2, 0), (2, 1)]), (6, (7, 9), [])):
            table = Table(working, [(2, [(1, wait)])])
            self.assertEqual((margin(table, 2, 1), margin(table, 2, 0)), (("least", margins[0]), ("least", margins[1])))
            self.assertEqual(faults(table), expected)
            self.assertIs(is_safe_table(table), not expected)

    def test_a_table_without_rows(self):
        table = Table(WORKING, [])
        self.assertEqual(faults(table=table), [])
        self.assertIs(is_safe_table(table=table), True)

    def test_a_row_without_needs(self):
        table = Table(WORKING, [(2, [(1, 1)]), (2, [])])
        self.assertEqual((margin(table, 2, 1), faults(table)), (("any", 0), [(2, 1)]))

    def test_an_act_that_demands_itself(self):
        working = Working(ALONE, [("free", 0), ("act", 0, [(1, 1)])])
        self.assertEqual(faults(Table(working, [(1, [(0, 50)])])), [(1, 1)])
        self.assertEqual(faults(Table(working, [(1, [(1, 50)])])), [])

    def test_they_are_ascending(self):
        working = Working(ALONE, [("act", 0, [(2, 1), (1, 1)]), ("free", 0), ("free", 0), ("act", 0, [(2, 1), (0, 1)])])
        self.assertEqual(faults(Table(working, [(3, []), (0, [])])), [(0, 1), (0, 2), (3, 0), (3, 2)])

    def test_by_the_margins(self):
        chance = random.Random(203)
        counts = [0, 0]
        for table in random_tables(chance, 100):
            expected = []
            for act in acts_of(table.working):
                for event, wait in table.working.demands(act):
                    kind, hours = margin(table, act, event)
                    if kind == "any" or (kind == "least" and hours < wait):
                        expected.append((act, event))
            self.assertEqual(faults(table), expected)
            self.assertIs(is_safe_table(table), not expected)
            counts[not expected] += 1
        self.assertGreater(min(counts), 20)

    def test_the_news_table_is_safe(self):
        chance = random.Random(204)
        for table in random_tables(chance, 60):
            self.assertEqual(faults(news_table(table.working)), [])

    def test_a_safe_table_keeps_all_demands_in_drives(self):
        chance = random.Random(205)
        counts = [0, 0]
        for world in random_worlds(chance, 250, rings=True):
            table = random_table(chance, world.working)
            safe = is_safe_table(table)
            for rule in (table, Honest(table)):
                kept = kept_demands(drive(world, rule, 14), world.settings())
                counts[kept] += 1
                self.assertTrue(kept or not safe)
        self.assertGreater(min(counts), 50)


class TestCopies(Case):

    def test_nothing_is_changed_and_every_list_is_new(self):
        table = Table(WORKING, [(2, [(0, 3)])])
        before = frozen(table_answers(table))
        self.same_after_spoiling(lambda: [faults(table), margin(table, 2, 1), is_safe_table(table)])
        self.assertEqual(frozen(table_answers(table)), before)


if __name__ == "__main__":
    unittest.main()
