"""Point 15: chains of waiting, and spare demands."""

import random
import unittest

from helpers import Case, frozen, random_line, random_working, working_answers
from surerails.lines import Line
from surerails.needs import hours_between, needed_demands, thinned
from surerails.rings import is_ring
from surerails.workings import Working

LINE = Line(2, [(0, 1, 1, 2), (1, 0, 1, 3)])
# 0 -> 1 by 2 hours, 1 -> 2 by 1 hour, and 3 demands 0, 1 and 2.
WORKING = Working(LINE, [
    ("free", 0), ("ride", 1, 0, 2, 9), ("act", 0, [(1, 1)]), ("act", 1, [(0, 8), (1, 5), (2, 4)]), ("free", 1),
])
RINGED = Working(LINE, [("free", 0), ("act", 0, [(2, 1)]), ("act", 1, [(1, 1), (0, 1)])])


def needing(first, second):
    """The act 2 demands 0 and 1; from 0 to 1 the ride takes at least 2 hours."""
    events = [("free", 0), ("ride", 0, 0, 2, 5), ("act", 0, [(0, first), (1, second)])]
    return needed_demands(Working(LINE, events))


def all_chains(working, first, last):
    """The lengths and numbers of events of all chains."""
    found = [(0, 1)] if first == last else []
    for event in range(working.size):
        for other, hours in waits(working, event):
            if other == first:
                found.extend((hours + length, count + 1) for length, count in all_chains(working, event, last))
    return found


def waits(working, event):
    link = working.cause(event)
    return working.demands(event) if link is None else [(link[0], link[1])]


class TestHoursBetween(Case):

    def test_the_longest_chain(self):
        self.assertEqual(hours_between(WORKING, 0, 1), 2)
        self.assertEqual(hours_between(WORKING, 0, 2), 3)
        self.assertEqual(hours_between(WORKING, 0, 3), 8)
        self.assertEqual(hours_between(WORKING, 1, 3), 5)
        self.assertEqual(hours_between(working=WORKING, first=2, second=3), 4)

    def test_the_same_event(self):
        self.assertEqual([hours_between(WORKING, event, event) for event in range(5)], [0, 0, 0, 0, 0])

    def test_no_chain(self):
        self.assertIsNone(hours_between(WORKING, 1, 0))
        self.assertIsNone(hours_between(WORKING, 4, 3))

    def test_a_ride_counts_by_its_low(self):
        working = Working(LINE, [("free", 0), ("ride", 0, 0, 3, None), ("ride", 0, 1, 4, 90)])
        self.assertEqual(hours_between(working, 0, 2), 7)

    def test_chains_to_events_with_lesser_numbers(self):
        working = Working(LINE, [("act", 0, [(1, 2)]), ("act", 0, [(2, 3)]), ("act", 0, [(3, 4)]), ("free", 0)])
        self.assertEqual([hours_between(working, 3, event) for event in range(4)], [9, 7, 4, 0])

    def test_errors_in_their_order(self):
        for working in (WORKING, RINGED):
            for event in (-1, working.size):
                self.refuses("NoEvent", (event,), lambda: hours_between(working, event, 0))
                self.refuses("NoEvent", (event,), lambda: hours_between(working, 0, event))
            self.refuses("NoEvent", (99,), lambda: hours_between(working, 99, -1))

    def test_against_all_chains(self):
        chance = random.Random(15)
        for _ in range(60):
            working = random_working(chance, random_line(chance), chance.randint(1, 8))
            for first in range(working.size):
                for second in range(working.size):
                    lengths = [length for length, _ in all_chains(working, first, second)]
                    self.assertEqual(hours_between(working, first, second), max(lengths, default=None))


class TestNeededDemands(Case):

    def test_a_demand_with_a_chain_that_is_as_long_is_spare(self):
        self.assertEqual(needing(5, 3), [(2, 1)])
        self.assertEqual(needing(4, 3), [(2, 1)])

    def test_a_demand_with_shorter_chains_is_needed(self):
        self.assertEqual(needing(6, 3), [(2, 0), (2, 1)])

    def test_the_demand_alone_does_not_make_itself_spare(self):
        working = Working(LINE, [("free", 0), ("act", 0, [(0, 1)]), ("act", 0, [(0, 1)])])
        self.assertEqual(needed_demands(working), [(1, 0), (2, 0)])

    def test_several_acts_ascending(self):
        self.assertEqual(needed_demands(WORKING), [(2, 1), (3, 0), (3, 2)])

    def test_without_acts(self):
        self.assertEqual(needed_demands(Working(LINE, [("free", 0)])), [])
        self.assertEqual(needed_demands(Working(LINE, [])), [])

    def test_a_ring(self):
        for call in (lambda: hours_between(RINGED, 0, 0), lambda: needed_demands(RINGED), lambda: thinned(RINGED)):
            with self.assertRaises(ValueError) as caught:
                call()
            self.assertEqual(sorted(caught.exception.events), [1, 2])
            self.assertTrue(is_ring(RINGED, caught.exception.events))
            self.refuses("Ring", (caught.exception.events,), call)

    def test_against_all_chains(self):
        chance = random.Random(16)
        spare = 0
        for _ in range(150):
            working = random_working(chance, random_line(chance), chance.randint(1, 8))
            expected = []
            for act in range(working.size):
                for event, wait in working.demands(act):
                    chains = all_chains(working, event, act)
                    if any(count >= 3 and length >= wait for length, count in chains):
                        spare += 1
                    else:
                        expected.append((act, event))
            self.assertEqual(needed_demands(working), expected)
        self.assertGreater(spare, 20)


class TestThinned(Case):

    def test_only_the_needed_demands_stay(self):
        working = thinned(WORKING)
        expected = WORKING.events()
        expected[3] = ("act", 1, ((0, 8), (2, 4)))
        self.assertEqual(working.events(), expected)
        self.assertEqual(working.line.wires(), LINE.wires())
        self.assertEqual(needed_demands(working), needed_demands(WORKING))

    def test_the_demands_are_all_kept_exactly_if_the_needed_ones_are(self):
        chance = random.Random(17)
        kept = 0
        for _ in range(200):
            working = random_working(chance, random_line(chance), chance.randint(1, 7))
            hours = {}
            for event in range(working.size):
                link = working.cause(event)
                if link is None:
                    hours[event] = chance.randint(0, 12)
                else:
                    hours[event] = hours[link[0]] + chance.randint(link[1], link[1] + 3 if link[2] is None else link[2])
            everything = all_kept(working, hours)
            kept += everything
            self.assertEqual(all_kept(thinned(working), hours), everything)
        self.assertTrue(20 < kept < 180, kept)


def all_kept(working, hours):
    return all(
        hours[event] + wait <= hours[act] for act in range(working.size) for event, wait in working.demands(act)
    )


class TestCopies(Case):

    def test_nothing_is_changed_and_every_list_is_new(self):
        before = frozen(working_answers(WORKING))
        self.same_after_spoiling(lambda: [needed_demands(WORKING), working_answers(thinned(WORKING))])
        hours_between(WORKING, 0, 3)
        self.assertEqual(frozen(working_answers(WORKING)), before)


if __name__ == "__main__":
    unittest.main()
