"""Point 57: the least extra waits that make a table safe."""

import itertools
import random
import unittest

from helpers import (
    Case, acts_of, frozen, kept_demands, random_line, random_tables, random_working, random_worlds, spoil, table_answers,
)
from surerails import errors
from surerails.driving import drive
from surerails.extremes import earliest_hours
from surerails.lines import Line
from surerails.margins import faults, is_safe_table, margin
from surerails.mending import least_waits
from surerails.tables import Table, news_table
from surerails.workings import Working, bounded_chain

LINE = Line(2, [(0, 1, 1, 2), (1, 0, 1, 3)])
WORKING = Working(LINE, [("free", 0), ("ride", 1, 0, 2, 4), ("act", 0, [(1, 1)])])
ALONE = Line(1, [])


def looks_of(table):
    """For each event those at which it looks."""
    working = table.working
    looks = {event: set() for event in range(working.size)}
    for event in range(working.size):
        if working.cause(event):
            looks[event].add(working.cause(event)[0])
    for act, needs in table.rows():
        looks[act].update(event for event, _ in needs)
    return looks


def any_order(chance, looks):
    """An order in which every event comes after all at which it looks, or None."""
    order = []
    while len(order) < len(looks):
        free = [event for event in looks if event not in order and looks[event] <= set(order)]
        if not free:
            return None
        order.append(chance.choice(free))
    return order


def unmendable(table):
    """The least fault that no wait can mend, or None."""
    for act, event in faults(table):
        chain = [ancestor for ancestor, _ in bounded_chain(table.working, event)]
        if margin(table, act, event)[0] == "any" or act in chain:
            return (act, event)
    return None


def slow_waits(table, order):
    """The point to the letter: one hour more and more, until the act has no fault."""
    extras = [0] * table.working.size
    for act in order:
        if table.working.kind(act) == "act" and earliest_hours(table)[act] is not None:
            while any(fault[0] == act for fault in faults(table.with_waits(extras))):
                extras[act] += 1
    return extras


def likely_tables(chance, count, *, events=8):
    """Tables whose rows mostly need what the act demands, or the cause of it, but for too few hours."""
    for _ in range(count):
        line = random_line(chance, boxes=3, longest=2)
        working = random_working(chance, line, chance.randint(3, events), kinds=("free", "ride", "act", "act"))
        rows = []
        for act in acts_of(working):
            for _ in range(chance.choice([0, 1, 1, 1, 2])):
                needs = {}
                for event, _ in working.demands(act):
                    if working.cause(event) and chance.random() < 0.7:
                        event = working.cause(event)[0]
                    needs[event] = chance.randint(1, 3)
                if act and chance.random() < 0.4:
                    needs[chance.randrange(act)] = chance.randint(1, 6)
                rows.append((act, list(needs.items())))
        chance.shuffle(rows)
        yield Table(working, rows)


class TestLeastWaits(Case):

    def check(self, working, rows, expected):
        table = Table(working, rows)
        found = least_waits(table)
        self.assertEqual(found, expected)
        self.least(table, found)

    def least(self, table, found):
        """With these waits the table is safe, and with a lesser one of them it is not."""
        self.assertIs(is_safe_table(table.with_waits(found)), True)
        for act, wait in enumerate(found):
            for lesser in {0, wait // 2, wait - 1} if wait else ():
                self.assertIs(is_safe_table(table.with_waits(found[:act] + [lesser] + found[act + 1:])), False)

    def test_the_example_of_the_document(self):
        self.check(WORKING, [(2, [(0, 3)])], [0, 0, 2])
        self.assertEqual(least_waits(table=Table(WORKING, [(2, [(0, 3)])])), [0, 0, 2])

    def test_a_table_that_is_safe(self):
        self.check(WORKING, [(2, [(1, 1)])], [0, 0, 0])
        self.check(WORKING, [(2, [(0, 5)])], [0, 0, 0])
        self.check(WORKING, [(2, [(0, 4)])], [0, 0, 1])
        self.assertEqual(least_waits(news_table(WORKING)), [0, 0, 0])

    def test_a_table_without_rows(self):
        self.check(WORKING, [], [0, 0, 0])

    def test_an_act_that_happens_in_no_run(self):
        working = Working(ALONE, [("free", 0), ("act", 0, [(0, 9)]), ("act", 0, [(0, 9)]), ("act", 0, [])])
        self.check(working, [(1, [(0, 1), (3, 1)]), (2, [(0, 2)])], [0, 0, 7, 0])

    def test_the_waits_of_acts_before_it_help(self):
        working = Working(ALONE, [("free", 0), ("act", 0, [(0, 9)]), ("act", 0, [(0, 9), (1, 2)])])
        self.check(working, [(1, [(0, 1)]), (2, [(1, 1)])], [0, 8, 1])
        self.check(working, [(1, [(0, 1)]), (2, [(1, 2)])], [0, 8, 0])

    def test_the_waits_of_acts_before_it_may_harm(self):
        working = Working(ALONE, [("free", 0), ("act", 0, [(0, 9)]), ("act", 0, [(1, 2)])])
        rows = [(1, [(0, 1)]), (2, [(1, 1)]), (2, [(0, 6), (1, 1)])]
        self.check(working, rows, [0, 8, 1])
        # An act may be done without having heard of what is later put off.
        wide = Working(ALONE, [("free", 0), ("act", 0, [(0, 9)]), ("act", 0, [(0, 5)])])
        self.check(wide, [(1, [(0, 1)]), (2, [(1, 1), (0, 1)])], [0, 8, 0])

    def test_an_act_with_several_rows_and_demands(self):
        working = Working(LINE, [("free", 0), ("free", 1), ("act", 0, [(0, 4), (1, 6)])])
        self.check(working, [(2, [(0, 3), (1, 1)]), (2, [(0, 1), (1, 2)])], [0, 0, 4])
        self.check(working, [(2, [(0, 9), (1, 9)]), (2, [(0, 1), (1, 2)])], [0, 0, 3])

    def test_rides_of_acts(self):
        working = Working(ALONE, [
            ("free", 0), ("act", 0, [(0, 5)]), ("ride", 0, 1, 2, 6), ("act", 0, [(2, 3), (0, 4)]), ("ride", 0, 3, 1, None),
        ])
        self.check(working, [(1, [(0, 3)]), (3, [(1, 4)])], [0, 2, 0, 5, 0])

    def test_the_order_of_the_acts_is_that_of_their_looks(self):
        working = Working(ALONE, [("act", 0, [(2, 3), (1, 8)]), ("act", 0, [(2, 6)]), ("free", 0)])
        self.check(working, [(0, [(1, 1)]), (1, [(2, 2)])], [7, 4, 0])

    def test_against_a_search_hour_by_hour(self):
        chance = random.Random(220)
        found = 0
        for table in likely_tables(chance, 300):
            order = any_order(chance, looks_of(table))
            if order is not None and unmendable(table) is None:
                waits = least_waits(table)
                self.assertEqual(waits, slow_waits(table, order))
                self.least(table, waits)
                found += sum(waits) > 0
        self.assertGreater(found, 50)

    def test_no_lesser_waits_are_enough(self):
        # Of all lists of small waits that make a table safe none is less at one act and no greater before it.
        chance = random.Random(221)
        found = 0
        for table in likely_tables(chance, 500, events=5):
            acts = acts_of(table.working)
            order = any_order(chance, looks_of(table))
            if order is None or unmendable(table) is not None or len(acts) > 3:
                continue
            waits = least_waits(table)
            if 0 < max(waits) <= 3:
                found += 1
                chain = [act for act in order if act in acts]
                for other in itertools.product(range(max(waits) + 1), repeat=len(acts)):
                    extras = [0] * table.working.size
                    for act, wait in zip(chain, other):
                        extras[act] = wait
                    before = [waits[act] for act in chain]
                    if is_safe_table(table.with_waits(extras)):
                        self.assertGreaterEqual(list(other), before)
        self.assertGreater(found, 10)

    def test_drives_keep_all_demands(self):
        chance = random.Random(222)
        found = 0
        for world in random_worlds(chance, 300):
            working = world.working
            rows = [(act, [(event, 1) for event, _ in working.demands(act)]) for act in acts_of(working)]
            table = Table(working, rows)
            waits = least_waits(table)
            found += sum(waits) > 0
            self.assertTrue(kept_demands(drive(world, table.with_waits(waits), 16), world.settings()))
        self.assertGreater(found, 50)


class TestErrors(Case):

    def circular(self, working, rows):
        """The call raises Circular with a ring of the table, to the letter, in a list that only the error has."""
        table = Table(working, rows)
        rings = []
        for _ in range(2):
            with self.assertRaises(ValueError) as caught:
                least_waits(table)
            self.assertIs(type(caught.exception), errors.Circular)
            self.assertIsInstance(caught.exception, errors.RailsError)
            ring = caught.exception.ring
            self.assertIs(type(ring), list)
            self.assertTrue(ring)
            self.assertEqual(len(ring), len(set(ring)))
            looks = looks_of(table)
            for event, other in zip(ring, ring[1:] + ring[:1]):
                self.assertIn(other, looks[event])
            rings.append(frozen(ring))
            spoil(ring)
        self.assertEqual(rings[0], rings[1])

    def test_rows_that_need_the_act_itself_or_each_other(self):
        working = Working(ALONE, [("free", 0), ("act", 0, []), ("ride", 0, 1, 1, 2), ("act", 0, [(0, 1)])])
        self.circular(working, [(1, [(1, 1)])])
        self.circular(working, [(1, []), (1, [(0, 1), (1, 1)])])
        self.circular(working, [(1, [(2, 1)])])
        self.circular(working, [(3, [(2, 1)]), (1, [(3, 1)])])
        # What looks at a ring is not in it; and a ring comes before what no wait can mend.
        self.circular(working, [(3, []), (3, [(1, 1)]), (1, [(2, 5)])])

    def test_rings_of_random_tables(self):
        chance = random.Random(223)
        counts = [0, 0]
        for table in random_tables(chance, 150):
            ringed = any_order(chance, looks_of(table)) is None
            counts[ringed] += 1
            if ringed:
                self.circular(table.working, table.rows())
        self.assertGreater(min(counts), 20)

    def test_demands_in_a_ring_are_no_ring_of_the_table(self):
        working = Working(ALONE, [("free", 0), ("act", 0, [(2, 1)]), ("act", 0, [(1, 1)])])
        self.assertEqual(least_waits(Table(working, [])), [0, 0, 0])
        self.refuses("NoWait", (1, 2), lambda: least_waits(Table(working, [(1, []), (2, [(1, 1)])])))

    def test_a_margin_of_any(self):
        working = Working(ALONE, [("free", 0), ("free", 0), ("act", 0, [(0, 1), (1, 1)]), ("act", 0, [(0, 1)])])
        for rows, values in (
            ([(2, [(0, 1)])], (2, 1)), ([(2, [])], (2, 0)), ([(3, []), (2, [(0, 1), (1, 1)])], (3, 0)),
            ([(3, []), (2, [(0, 1), (1, 1)]), (2, [(0, 1)])], (2, 1)),
        ):
            self.refuses("NoWait", values, lambda: least_waits(Table(working, rows)))

    def test_an_event_that_happens_in_no_run(self):
        working = Working(ALONE, [("free", 0), ("act", 0, []), ("act", 0, [(1, 1)])])
        self.refuses("NoWait", (2, 1), lambda: least_waits(Table(working, [(2, [(0, 1)])])))
        self.assertEqual(least_waits(Table(working, [(2, [(1, 1)])])), [0, 0, 0])

    def test_an_act_in_the_bounded_chain_of_the_event(self):
        working = Working(ALONE, [("free", 0), ("act", 0, [(0, 3), (2, 1)]), ("ride", 0, 1, 1, 4)])
        self.refuses("NoWait", (1, 2), lambda: least_waits(Table(working, [(1, [(0, 1)])])))
        itself = Working(ALONE, [("free", 0), ("act", 0, [(0, 3), (1, 1)])])
        self.refuses("NoWait", (1, 1), lambda: least_waits(Table(itself, [(1, [(0, 1)])])))
        # An unbounded ride of the act is never sure to come.
        loose = Working(ALONE, [("free", 0), ("act", 0, [(0, 3), (2, 1)]), ("ride", 0, 1, 1, None)])
        self.refuses("NoWait", (1, 2), lambda: least_waits(Table(loose, [(1, [(0, 1)])])))

    def test_the_least_of_several(self):
        chance = random.Random(224)
        found = 0
        for table in itertools.chain(random_tables(chance, 200), likely_tables(chance, 100)):
            if any_order(chance, looks_of(table)) is not None and unmendable(table) is not None:
                found += 1
                self.refuses("NoWait", unmendable(table), lambda: least_waits(table))
        self.assertGreater(found, 10)


class TestCopies(Case):

    def test_nothing_is_changed_and_every_list_is_new(self):
        table = Table(WORKING, [(2, [(0, 3)])])
        before = frozen(table_answers(table))
        self.same_after_spoiling(lambda: least_waits(table))
        self.assertEqual(frozen(table_answers(table)), before)


if __name__ == "__main__":
    unittest.main()
