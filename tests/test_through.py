"""Point 60: demands of which no letter surely tells, and whether all events get through."""

import random
import unittest

from helpers import Case, acts_of, frozen, random_line, random_tables, random_world, random_working, working_answers, world_answers
from surerails.driving import drive
from surerails.freest import Freest
from surerails.lags import lag
from surerails.lines import Line
from surerails.margins import is_safe_table
from surerails.rings import find_ring
from surerails.rules import Both, Honest
from surerails.tables import Table, news_table
from surerails.through import deaf_demands, gets_through, stuck_world
from surerails.workings import Working, bounded_chain
from surerails.worlds import World

LINE = Line(2, [(0, 1, 1, 2), (1, 0, 1, 3)])
ALONE = Line(1, [])
EAST = Line(3, [(0, 1, 1, 2), (1, 2, 1, 2)])


def slow_deaf(working):
    """The point to the letter."""
    found = []
    for act in acts_of(working):
        for event, _ in working.demands(act):
            ways = [
                lag(working.line, working.box_of(ancestor), working.box_of(act), late=True)
                for ancestor, _ in bounded_chain(working, event)
            ]
            if all(way is None for way in ways):
                found.append((act, event))
    return found


def on_a_ring(working):
    """The events that wait, over any others, for themselves."""
    links = {event: [other for other, _ in working.demands(event)] for event in range(working.size)}
    for event in range(working.size):
        if working.cause(event):
            links[event] = [working.cause(event)[0]]
    reached = {event: set(others) for event, others in links.items()}
    for _ in range(working.size):
        for event in reached:
            reached[event] |= {far for other in reached[event] for far in reached[other]}
    return [event for event in reached if event in reached[event]]


def random_workings(chance, count, *, rings=True):
    for _ in range(count):
        line = random_line(chance, boxes=3, longest=2)
        yield random_working(chance, line, chance.randint(1, 7), rings=rings, kinds=("free", "ride", "act", "act"))


class TestDeafDemands(Case):

    def check(self, line, events, expected):
        working = Working(line, events)
        self.assertEqual(deaf_demands(working), expected)
        self.assertEqual(slow_deaf(working), expected)
        self.assertIs(gets_through(working), not expected and find_ring(working) is None)

    def test_a_way_of_bounded_wires(self):
        self.check(EAST, [("free", 0), ("act", 2, [(0, 1)])], [])
        self.check(EAST, [("free", 2), ("act", 0, [(0, 1)])], [(1, 0)])
        self.check(ALONE, [("free", 0), ("act", 0, [(0, 1)])], [])

    def test_only_because_of_one_unbounded_wire(self):
        for high, expected in ((9, []), (None, [(1, 0), (2, 0)])):
            line = Line(3, [(0, 1, 1, 2), (1, 2, 1, high), (2, 0, 3, 3)])
            self.check(line, [("free", 0), ("act", 2, [(0, 1)]), ("act", 2, [(0, 5)]), ("act", 0, [(2, 1)])], expected)

    def test_an_ancestor_that_surely_draws_the_event(self):
        line = Line(3, [(0, 1, 1, 2), (0, 2, 1, 2)])
        self.check(line, [("free", 0), ("ride", 1, 0, 2, 9), ("act", 2, [(1, 1)])], [])
        self.check(line, [("free", 0), ("ride", 1, 0, 2, None), ("act", 2, [(1, 1)])], [(2, 1)])
        far = [("free", 0), ("ride", 1, 0, 2, None), ("ride", 1, 1, 2, 9), ("act", 2, [(2, 1)]), ("act", 2, [(0, 1)])]
        self.check(line, far, [(3, 2)])

    def test_the_event_itself(self):
        line = Line(3, [(0, 1, 1, 2), (1, 2, 1, 2)])
        self.check(line, [("free", 0), ("ride", 1, 0, 2, None), ("act", 2, [(1, 1)]), ("act", 2, [(2, 1)])], [])

    def test_they_are_ascending(self):
        line = Line(2, [(0, 1, 1, None)])
        events = [("act", 1, [(2, 1), (1, 1)]), ("free", 0), ("free", 0), ("act", 1, [(2, 1), (0, 1)])]
        self.check(line, events, [(0, 1), (0, 2), (3, 2)])
        self.assertEqual(deaf_demands(working=Working(line, events)), [(0, 1), (0, 2), (3, 2)])

    def test_at_random(self):
        chance = random.Random(240)
        counts = [0, 0]
        for working in random_workings(chance, 250):
            found = deaf_demands(working)
            counts[not found] += 1
            self.assertEqual(found, slow_deaf(working))
            self.assertIs(gets_through(working), not found and find_ring(working) is None)
        self.assertGreater(min(counts), 40)


class TestGetsThrough(Case):

    def test_rings(self):
        for events in ([("act", 0, [(0, 1)])], [("act", 0, [(1, 1)]), ("act", 0, [(0, 1)])],
                       [("act", 0, [(1, 1)]), ("ride", 0, 0, 1, 2)]):
            self.assertIs(gets_through(Working(ALONE, events)), False)
        self.assertIs(gets_through(working=Working(ALONE, [("act", 0, [(1, 1)]), ("act", 0, [])])), True)

    def test_an_empty_working(self):
        self.assertIs(gets_through(Working(ALONE, [])), True)
        self.assertEqual(deaf_demands(Working(ALONE, [])), [])

    def test_all_events_happen_exactly_if_it_says_so(self):
        chance = random.Random(241)
        counts = [0, 0]
        for working in random_workings(chance, 110):
            through = gets_through(working)
            counts[through] += 1
            if through:
                world = self.any_hopeful_world(chance, working)
                seen = drive(world, Freest(), 90).seen()
                self.assertEqual([event for event, _ in seen], list(range(working.size)))
            else:
                seen = drive(stuck_world(working), Freest(), 90).seen()
                self.assertLess(len(seen), working.size)
        self.assertGreater(min(counts), 20)

    def any_hopeful_world(self, chance, working):
        """A world in which every free event happens, every ride comes and no pause is None."""
        world = None
        while world is None:
            world = random_world(chance, working)
        whims = world.whims()
        for event in range(working.size):
            if whims[event] is None:
                whims[event] = working.cause(event)[1] if working.cause(event) else chance.randint(0, 3)
        return World(working, world.settings(), whims, world.lates())


class TestStuckWorld(Case):

    def test_what_it_says(self):
        line = Line(3, [(1, 0, 1, 3), (0, 1, 2, 2), (1, 2, 4, None)], bounds=[(0, 1, 0)])
        working = Working(line, [("free", 0), ("ride", 1, 0, 2, 4), ("act", 0, [(1, 1)]), ("ride", 0, 2, 3, None)])
        world = stuck_world(working=working)
        self.assertIsInstance(world, World)
        self.assertEqual(world.settings(), [0, 0, 0])
        self.assertEqual(world.whims(), [0, 2, 0, 3])
        self.assertEqual(world.lates(), [[2], [3], [None]])
        self.assertEqual(working_answers(world.working), working_answers(working))

    def test_no_act_with_a_deaf_demand_and_no_event_of_a_ring_happens(self):
        chance = random.Random(242)
        counts = [0, 0, 0]
        for working in random_workings(chance, 130):
            deaf = sorted({act for act, _ in deaf_demands(working)})
            ring = on_a_ring(working)
            counts[0] += bool(deaf)
            counts[1] += bool(ring)
            for rule in (Freest(), news_table(working), Honest(Freest()), Both(news_table(working), Freest())):
                record = drive(stuck_world(working), rule, 40)
                for event in deaf + ring:
                    self.assertIsNone(record.reading(event))
                counts[2] += len(record.seen())
        self.assertGreater(min(counts), 10)

    def test_nor_under_tables_that_are_safe(self):
        chance = random.Random(243)
        found = 0
        for table in random_tables(chance, 200):
            if is_safe_table(table) and table.rows():
                found += 1
                record = drive(stuck_world(table.working), table, 60)
                for event in [act for act, _ in deaf_demands(table.working)] + on_a_ring(table.working):
                    self.assertIsNone(record.reading(event))
        self.assertGreater(found, 20)

    def test_under_a_rule_that_is_not_safe_they_may(self):
        line = Line(2, [(0, 1, 1, None)])
        working = Working(line, [("free", 0), ("act", 1, [(0, 1)])])
        self.assertEqual(drive(stuck_world(working), Table(working, [(1, [])]), 5).seen(), [(0, 0), (1, 0)])
        self.assertEqual(drive(stuck_world(working), Freest(), 50).seen(), [(0, 0)])


class TestCopies(Case):

    def test_nothing_is_changed_and_every_list_is_new(self):
        working = Working(LINE, [("free", 0), ("ride", 1, 0, 2, None), ("act", 0, [(1, 1)])])
        before = frozen(working_answers(working))
        self.same_after_spoiling(lambda: [deaf_demands(working), gets_through(working)])
        self.same_after_spoiling(lambda: world_answers(stuck_world(working)))
        world = stuck_world(working)
        self.same_after_spoiling(lambda: world_answers(world))
        self.assertEqual(frozen(working_answers(working)), before)


if __name__ == "__main__":
    unittest.main()
