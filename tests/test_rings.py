"""Point 14: rings of events."""

import itertools
import random
import unittest

from helpers import Case, frozen, random_line, random_working, working_answers
from surerails.lines import Line
from surerails.rings import find_ring, is_ring
from surerails.workings import Working

LINE = Line(2, [(0, 1, 1, 1), (1, 0, 1, 1)])
# The act 1 waits for the ride 3, the ride for the act 2, the act 2 for the act 1; the act 4 waits for 1.
RINGED = Working(LINE, [
    ("free", 0), ("act", 0, [(0, 1), (3, 1)]), ("act", 1, [(1, 5)]), ("ride", 0, 2, 1, 2), ("act", 0, [(1, 1)]),
    ("act", 1, [(5, 1)]),
])


def waits_for(working, event, other):
    """Point 14 to the letter."""
    row = working.events()[event]
    if row[0] == "ride":
        return row[2] == other
    return row[0] == "act" and other in [demanded for demanded, _ in row[2]]


def all_rings(working):
    found = []
    for count in range(1, working.size + 1):
        for ring in itertools.permutations(range(working.size), count):
            if all(waits_for(working, a, b) for a, b in zip(ring, ring[1:] + ring[:1])):
                found.append(list(ring))
    return found


class TestFindRing(Case):

    def test_without_a_ring(self):
        working = Working(LINE, [("free", 0), ("ride", 1, 0, 2, 4), ("act", 0, [(1, 1), (0, 1)])])
        self.assertIsNone(find_ring(working))
        self.assertIsNone(find_ring(Working(LINE, [])))

    def test_a_later_demanded_event_alone_is_no_ring(self):
        self.assertIsNone(find_ring(Working(LINE, [("act", 0, [(2, 1)]), ("free", 0), ("ride", 0, 1, 1, 1)])))

    def test_an_act_that_demands_itself(self):
        working = Working(LINE, [("free", 0), ("act", 0, [(1, 1)])])
        self.assertEqual(find_ring(working), [1])

    def test_two_acts_that_demand_each_other(self):
        working = Working(LINE, [("act", 0, [(1, 1)]), ("act", 1, [(0, 1)])])
        self.assertEqual(sorted(find_ring(working)), [0, 1])

    def test_a_ring_through_a_ride_is_in_the_order_of_waiting(self):
        working = Working(LINE, [("act", 0, [(1, 1)]), ("act", 1, [(2, 1)]), ("free", 0)])
        self.assertIsNone(find_ring(working))
        working = Working(LINE, [("act", 0, [(2, 1)]), ("ride", 0, 0, 1, 1), ("ride", 0, 1, 1, 1)])
        ring = find_ring(working)
        self.assertIn(ring, [[0, 2, 1], [2, 1, 0], [1, 0, 2]])

    def test_what_waits_for_a_ring_is_not_in_it(self):
        self.assertIn(find_ring(RINGED), [[1, 3, 2], [3, 2, 1], [2, 1, 3], [5]])

    def test_against_all_lists(self):
        chance = random.Random(14)
        ringed = 0
        for _ in range(120):
            working = random_working(chance, random_line(chance), chance.randint(0, 6), rings=True)
            rings = all_rings(working)
            if rings:
                ringed += 1
                self.assertIn(find_ring(working), rings)
            else:
                self.assertIsNone(find_ring(working))
        self.assertTrue(20 < ringed < 100, ringed)


class TestIsRing(Case):

    def test_each_turn_of_a_ring(self):
        for ring in ([1, 3, 2], [3, 2, 1], [2, 1, 3], [5]):
            self.assertIs(is_ring(RINGED, ring), True)

    def test_what_is_no_ring(self):
        for events in ([], [1, 2, 3], [1], [4], [4, 1], [1, 3], [1, 3, 2, 1, 3, 2], [5, 5], [0], [4, 1, 3, 2]):
            self.assertIs(is_ring(RINGED, events), False, events)

    def test_numbers_that_are_no_events(self):
        for events in ([6], [-1], [-5, 3, 2], [1, 3, -4], [1, 9, 2], [10 ** 9]):
            self.assertIs(is_ring(RINGED, events), False, events)
        self.assertIs(is_ring(working=RINGED, events=[5]), True)

    def test_against_all_lists(self):
        chance = random.Random(15)
        for _ in range(40):
            working = random_working(chance, random_line(chance), chance.randint(1, 4), rings=True)
            rings = all_rings(working)
            for count in range(4):
                for events in itertools.product(range(-1, working.size + 1), repeat=count):
                    self.assertEqual(is_ring(working, list(events)), list(events) in rings)


class TestCopies(Case):

    def test_nothing_is_changed_and_every_list_is_new(self):
        before = frozen(working_answers(RINGED))
        ring = [1, 3, 2]
        self.assertTrue(is_ring(RINGED, ring))
        self.assertEqual(ring, [1, 3, 2])
        self.same_after_spoiling(lambda: [find_ring(RINGED)])
        self.assertEqual(frozen(working_answers(RINGED)), before)


if __name__ == "__main__":
    unittest.main()
