"""Points 10 to 13: the working and its events."""

import unittest

from helpers import Case, frozen, spoil, working_answers
from surerails.lines import Line
from surerails.workings import Working, bounded_chain

LINE = Line(3, [(0, 1, 1, 2), (1, 0, 1, 3), (1, 2, 1, None), (0, 2, 4, 9)])
EVENTS = [
    ("free", 0), ("ride", 1, 0, 2, 4), ("act", 0, [(4, 2), (1, 1), (2, 9)]), ("ride", 1, 1, 1, None),
    ("ride", 0, 3, 3, 3), ("ride", 1, 1, 5, 6), ("act", 2, ()), ("free", 2), ("ride", 2, 6, 1, 1),
]


def working_with(*events):
    return Working(LINE, list(events))


class TestWorking(Case):

    def setUp(self):
        self.working = Working(LINE, EVENTS)

    def test_the_example_of_the_document(self):
        line = Line(2, [(0, 1, 1, 2), (1, 0, 1, 3)])
        working = Working(line, [("free", 0), ("ride", 1, 0, 2, 4), ("act", 0, [(1, 1)])])
        answers = [working.cause(1), working.demands(2), bounded_chain(working, 1)]
        self.assertEqual(answers, [(0, 2, 4), [(1, 1)], [(1, 0), (0, 4)]])

    def test_line_and_size(self):
        self.assertEqual(self.working.size, 9)
        self.assertEqual(self.working.line.wires(), LINE.wires())
        self.assertEqual(Working(line=LINE, events=[]).size, 0)

    def test_the_working_without_events(self):
        working = Working(LINE, [])
        self.assertEqual((working.events(), working.events_at(2)), ([], []))
        self.refuses("NoEvent", (0,), lambda: working.kind(0))

    def test_boxes_and_kinds(self):
        self.assertEqual([self.working.box_of(event) for event in range(9)], [0, 1, 0, 1, 0, 1, 2, 2, 2])
        kinds = ["free", "ride", "act", "ride", "ride", "ride", "act", "free", "ride"]
        self.assertEqual([self.working.kind(event) for event in range(9)], kinds)

    def test_causes(self):
        causes = [None, (0, 2, 4), None, (1, 1, None), (3, 3, 3), (1, 5, 6), None, None, (6, 1, 1)]
        self.assertEqual([self.working.cause(event) for event in range(9)], causes)
        self.assertIs(type(self.working.cause(1)), tuple)

    def test_demands_are_ascending_and_empty_for_other_events(self):
        self.assertEqual(self.working.demands(2), [(1, 1), (2, 9), (4, 2)])
        self.assertEqual([self.working.demands(event) for event in (0, 1, 6)], [[], [], []])

    def test_demands_may_be_a_tuple(self):
        working = working_with(("free", 0), ("act", 0, ((0, 3),)))
        self.assertEqual(working.demands(1), [(0, 3)])

    def test_followers_are_the_rides_of_a_cause(self):
        followers = [[1], [3, 5], [], [4], [], [], [8], [], []]
        self.assertEqual([self.working.followers(event) for event in range(9)], followers)

    def test_an_act_is_no_follower_of_what_it_demands(self):
        working = working_with(("free", 0), ("act", 0, [(0, 1)]), ("ride", 0, 0, 1, 1))
        self.assertEqual(working.followers(0), [2])

    def test_events_gives_the_form_of_the_document(self):
        expected = list(EVENTS)
        expected[2] = ("act", 0, ((1, 1), (2, 9), (4, 2)))
        self.assertEqual(self.working.events(), expected)
        self.assertEqual(Working(LINE, self.working.events()).events(), expected)

    def test_events_at_a_box(self):
        self.assertEqual([self.working.events_at(box) for box in range(3)], [[0, 2, 4], [1, 3, 5], [6, 7, 8]])

    def test_what_is_no_event_or_no_box(self):
        calls = [
            self.working.box_of, self.working.kind, self.working.cause, self.working.demands,
            self.working.followers, lambda event: bounded_chain(self.working, event),
        ]
        for call in calls:
            for event in (-1, 9, 10 ** 9):
                self.refuses("NoEvent", (event,), lambda: call(event))
        for box in (-1, 3):
            self.refuses("NoBox", (box,), lambda: self.working.events_at(box))


class TestWrongWorking(Case):

    def test_no_box_for_each_kind(self):
        for box in (-1, 3):
            self.refuses("NoBox", (box,), lambda: working_with(("free", box)))
            self.refuses("NoBox", (box,), lambda: working_with(("free", 0), ("ride", box, 0, 1, 1)))
            self.refuses("NoBox", (box,), lambda: working_with(("act", box, [])))

    def test_the_box_is_looked_at_first(self):
        self.refuses("NoBox", (3,), lambda: working_with(("ride", 3, 5, 0, 0)))
        self.refuses("NoBox", (3,), lambda: working_with(("act", 3, [(7, 0)])))

    def test_the_cause_is_an_earlier_entry(self):
        for cause in (-1, 1, 2, 3):
            events = [("free", 0), ("ride", 0, cause, 0, 0), ("free", 0)]
            self.refuses("NoEvent", (cause,), lambda: Working(LINE, events))
        self.assertEqual(working_with(("free", 0), ("ride", 0, 0, 1, 1)).cause(1), (0, 1, 1))

    def test_the_hours_of_a_ride(self):
        for low, high in ((0, 5), (-1, None), (0, None), (3, 2), (1, 0)):
            self.refuses("BadRide", (1,), lambda: working_with(("free", 0), ("ride", 1, 0, low, high)))
        self.assertEqual(working_with(("free", 0), ("ride", 0, 0, 1, 1)).cause(1), (0, 1, 1))
        self.assertEqual(working_with(("free", 0), ("ride", 0, 0, 1, None)).cause(1), (0, 1, None))

    def test_a_bad_ride_comes_before_a_slow_wire(self):
        self.refuses("BadRide", (1,), lambda: working_with(("free", 2), ("ride", 0, 0, 0, 5)))

    def test_a_ride_needs_a_wire_that_is_as_quick(self):
        self.refuses("SlowWire", (1,), lambda: working_with(("free", 0), ("ride", 1, 0, 1, 8)))
        self.assertEqual(working_with(("free", 0), ("ride", 1, 0, 2, 2)).size, 2)
        self.refuses("SlowWire", (2,), lambda: working_with(("free", 0), ("free", 1), ("ride", 0, 1, 2, None)))
        self.assertEqual(working_with(("free", 1), ("ride", 0, 0, 3, None)).size, 2)

    def test_a_ride_needs_a_wire_that_is_bounded(self):
        self.refuses("SlowWire", (1,), lambda: working_with(("free", 1), ("ride", 2, 0, 10 ** 9, None)))

    def test_a_ride_needs_a_wire_of_its_own(self):
        self.refuses("SlowWire", (1,), lambda: working_with(("free", 2), ("ride", 0, 0, 50, 60)))
        self.refuses("SlowWire", (1,), lambda: working_with(("free", 2), ("ride", 1, 0, 50, 60)))

    def test_the_demanded_number_is_an_event(self):
        for event in (-1, 2):
            self.refuses("NoEvent", (event,), lambda: working_with(("free", 0), ("act", 0, [(event, 0)])))

    def test_an_act_may_demand_a_later_event_or_itself(self):
        working = working_with(("act", 0, [(1, 1), (0, 2)]), ("free", 2))
        self.assertEqual(working.demands(0), [(0, 2), (1, 1)])

    def test_the_wait_is_at_least_one(self):
        for wait in (0, -4):
            self.refuses("BadDemand", (1, 0), lambda: working_with(("free", 0), ("act", 0, [(0, wait)])))

    def test_a_demand_twice(self):
        self.refuses("BadDemand", (1, 0), lambda: working_with(("free", 0), ("act", 0, [(0, 1), (1, 1), (0, 2)])))
        self.refuses("BadDemand", (1, 0), lambda: working_with(("free", 0), ("act", 0, [(0, 1), (0, 1)])))
        working = working_with(("free", 0), ("act", 0, [(0, 1)]), ("act", 0, [(0, 1)]))
        self.assertEqual(working.demands(2), [(0, 1)])

    def test_demands_are_checked_one_by_one(self):
        self.refuses("BadDemand", (0, 1), lambda: working_with(("act", 0, [(1, 0), (9, 1)]), ("free", 0)))
        self.refuses("NoEvent", (9,), lambda: working_with(("act", 0, [(9, 1), (1, 0)]), ("free", 0)))

    def test_events_are_checked_entry_by_entry(self):
        self.refuses("BadRide", (1,), lambda: working_with(("free", 0), ("ride", 0, 0, 0, 1), ("free", 9)))
        self.refuses("NoBox", (9,), lambda: working_with(("free", 9), ("ride", 0, 0, 0, 1)))
        self.refuses("BadDemand", (0, 0), lambda: working_with(("act", 0, [(0, 0)]), ("ride", 0, 5, 1, 1)))
        self.refuses("NoEvent", (5,), lambda: working_with(("ride", 0, 5, 1, 1), ("act", 0, [(0, 0)])))
        self.refuses("SlowWire", (1,), lambda: working_with(("free", 2), ("ride", 0, 0, 5, 5), ("free", -1)))


class TestChain(Case):

    def test_the_chain_sums_the_highs(self):
        working = Working(LINE, EVENTS)
        self.assertEqual(bounded_chain(working, 0), [(0, 0)])
        self.assertEqual(bounded_chain(working, 5), [(5, 0), (1, 6), (0, 10)])
        self.assertEqual(bounded_chain(working=working, event=8), [(8, 0), (6, 1)])

    def test_the_chain_ends_at_an_unbounded_ride(self):
        working = Working(LINE, EVENTS)
        self.assertEqual(bounded_chain(working, 3), [(3, 0)])
        self.assertEqual(bounded_chain(working, 4), [(4, 0), (3, 3)])

    def test_the_chain_ends_at_an_act(self):
        self.assertEqual(bounded_chain(Working(LINE, EVENTS), 2), [(2, 0)])

    def test_a_long_chain(self):
        events = [("free", 0)] + [("ride", 0, number, 1, 2) for number in range(59)]
        expected = [(59 - at, 2 * at) for at in range(60)]
        self.assertEqual(bounded_chain(Working(LINE, events), 59), expected)


class TestCopies(Case):

    def test_passed_lists_are_neither_changed_nor_kept(self):
        demands = [(2, 1), (0, 3)]
        events = [("free", 0), ("act", 1, demands), ("free", 2)]
        working = Working(LINE, events)
        self.assertEqual(events, [("free", 0), ("act", 1, [(2, 1), (0, 3)]), ("free", 2)])
        before = frozen(working_answers(working))
        spoil(events)
        self.assertEqual(demands, ["rubbish"])
        self.assertEqual(frozen(working_answers(working)), before)

    def test_returned_lists_are_new(self):
        working = Working(LINE, EVENTS)
        self.same_after_spoiling(lambda: working_answers(working))
        self.same_after_spoiling(lambda: [bounded_chain(working, event) for event in range(9)])

    def test_a_chain_changes_nothing(self):
        working = Working(LINE, EVENTS)
        before = frozen(working_answers(working))
        bounded_chain(working, 5)
        self.assertEqual(frozen(working_answers(working)), before)


if __name__ == "__main__":
    unittest.main()
