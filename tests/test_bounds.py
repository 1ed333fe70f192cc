"""Points 29 to 31: bounds and placings."""

import itertools
import random
import unittest

from helpers import Case, frozen, random_line, random_records, random_working, record_answers, true_record
from surerails.bounds import bounds_of, broken_bounds, is_placing
from surerails.lines import Line
from surerails.records import Record
from surerails.workings import Working

LINE = Line(2, [(0, 1, 1, 2), (1, 0, 1, 3)])
WORKING = Working(LINE, [("free", 0), ("ride", 1, 0, 2, 4), ("act", 0, [(1, 1)])])
EXAMPLE = Record(WORKING, [1, -1], seen=[(0, 1)])
UNBOUNDED = Line(2, [(0, 1, 2, None)])


def bounds_without_silence(record):
    return [bound for bound in bounds_of(record) if bound[3][0] != "silence"]


def riding(line, *rides, heights, seen):
    """The bounds of the rides of a record whose event 0 is free at the box 0."""
    record = Record(Working(line, [("free", 0)] + list(rides)), heights, seen=seen)
    return bounds_without_silence(record)


def holds(record, settings):
    """Points 20 and 29 to the letter: whether a run with the settings holds the record.

    In this run all that is still out comes as late as it can, or never.
    """
    line, working = record.line, record.working
    if any(settings[later] - settings[earlier] > most for later, earlier, most in line.bounds()):
        return False
    for source, target, low, high in line.wires():
        for sent in range(max(record.heights()) + 9):
            come = record.come(source, target, sent)
            late = None if come is None else settings[target] + come - settings[source] - sent
            if come is None and high is not None:
                if settings[source] + sent + high - settings[target] <= record.height(target):
                    return False
            if come is not None and (late < low or high is not None and late > high):
                return False
    hours = {}
    for event in range(working.size):
        if not hour_fits(record, settings, hours, event):
            return False
    return True


def hour_fits(record, settings, hours, event):
    """Notes the latest hour of the event, and tells whether it is what the record says."""
    setting = settings[record.working.box_of(event)]
    reading = record.reading(event)
    link = record.working.cause(event)
    if reading is not None:
        hours[event] = setting + reading
        if link is None:
            return True
        late = hours[event] - hours[link[0]]
        return late >= link[1] and (link[2] is None or late <= link[2])
    if link is None or link[2] is None or link[0] not in hours:
        return True
    hours[event] = hours[link[0]] + link[2]
    return hours[event] - setting > record.height(record.working.box_of(event))


class TestBoundsOf(Case):

    def test_the_example_of_the_document(self):
        self.assertEqual(bounds_of(EXAMPLE), [
            (0, 1, 1, ("silence", 1, 0, 0)), (1, 0, 2, ("silence", 0, 1, 0)), (1, 0, 5, ("awaited", 1)),
        ])

    def test_no_bounds(self):
        self.assertEqual(bounds_of(Record(Working(Line(1, []), []), [5])), [])
        self.assertEqual(bounds_of(record=Record(Working(UNBOUNDED, []), [5, 5])), [])

    def test_what_is_told(self):
        line = Line(3, [], bounds=[(2, 0, 7), (1, 2, 0)])
        self.assertEqual(bounds_of(Record(Working(line, []), [-1, -1, 5])), [
            (1, 2, 0, ("told", 1, 2)), (2, 0, 7, ("told", 2, 0)),
        ])

    def test_a_letter_comes_neither_early_nor_late(self):
        record = Record(Working(LINE, []), [9, 9], letters=[(0, 1, 4, 7)])
        self.assertEqual(bounds_without_silence(record), [
            (0, 1, 2, ("early", 0, 1, 4)), (1, 0, -1, ("late", 0, 1, 4)),
        ])

    def test_a_letter_over_an_unbounded_wire_is_never_late(self):
        record = Record(Working(UNBOUNDED, []), [9, 9], letters=[(0, 1, 4, 9)])
        self.assertEqual(bounds_of(record), [(0, 1, 3, ("early", 0, 1, 4))])

    def test_the_silence_of_the_first_missing_letter(self):
        record = Record(Working(Line(2, [(0, 1, 1, 5)]), []), [9, 7], letters=[(0, 1, 0, 2), (0, 1, 2, 3)])
        self.assertIn((1, 0, 1 + 5 - 1 - 7, ("silence", 0, 1, 1)), bounds_of(record))
        self.assertEqual(len(bounds_of(record)), 5)

    def test_the_silence_of_a_letter_that_is_not_yet_sent(self):
        record = Record(Working(Line(2, [(0, 1, 1, 5)]), []), [0, 7], letters=[(0, 1, 0, 2)])
        self.assertIn((1, 0, 1 + 5 - 1 - 7, ("silence", 0, 1, 1)), bounds_of(record))

    def test_the_silence_at_a_height_of_minus_one(self):
        record = Record(Working(Line(2, [(0, 1, 1, 5)]), []), [-1, -1])
        self.assertEqual(bounds_of(record), [(1, 0, 5, ("silence", 0, 1, 0))])

    def test_a_seen_ride(self):
        self.assertEqual(riding(LINE, ("ride", 1, 0, 2, 4), heights=[3, 8], seen=[(1, 8), (0, 3)]), [
            (0, 1, 3, ("soon", 1)), (1, 0, -1, ("due", 1)),
        ])

    def test_a_seen_unbounded_ride(self):
        self.assertEqual(
            riding(LINE, ("ride", 1, 0, 2, None), heights=[3, 8], seen=[(1, 8), (0, 3)]), [(0, 1, 3, ("soon", 1))])

    def test_a_seen_ride_at_the_box_of_its_cause(self):
        self.assertEqual(riding(LINE, ("ride", 0, 0, 1, 4), heights=[9, -1], seen=[(1, 7), (0, 3)]), [
            (0, 0, 0, ("due", 1)), (0, 0, 3, ("soon", 1)),
        ])

    def test_an_awaited_ride(self):
        self.assertEqual(
            riding(LINE, ("ride", 1, 0, 2, 4), heights=[3, 5], seen=[(0, 3)]), [(1, 0, 1, ("awaited", 1))])
        self.assertEqual(
            riding(LINE, ("ride", 0, 0, 1, 4), heights=[6, 5], seen=[(0, 3)]), [(0, 0, 0, ("awaited", 1))])
        self.assertEqual(
            riding(LINE, ("ride", 0, 0, 1, 4), heights=[7, 5], seen=[(0, 3)]), [(0, 0, -1, ("awaited", 1))])

    def test_an_awaited_ride_behind_others(self):
        rides = [("ride", 1, 0, 2, 4), ("ride", 1, 1, 1, 3), ("ride", 0, 2, 3, 5)]
        self.assertEqual(riding(LINE, *rides, heights=[3, 5], seen=[(0, 3)]), [
            (0, 0, 11, ("awaited", 3)), (1, 0, 1, ("awaited", 1)), (1, 0, 4, ("awaited", 2)),
        ])
        self.assertEqual(riding(LINE, *rides, heights=[3, 5], seen=[(0, 3), (1, 4)]), [
            (0, 1, -1, ("soon", 1)), (0, 1, 8, ("awaited", 3)), (1, 0, 3, ("due", 1)), (1, 1, 1, ("awaited", 2)),
        ])

    def test_no_ride_is_awaited_behind_what_may_never_come(self):
        self.assertEqual(riding(LINE, ("ride", 1, 0, 2, None), ("ride", 1, 1, 1, 1), heights=[3, 5], seen=[(0, 3)]), [])
        self.assertEqual(riding(LINE, ("ride", 1, 0, 2, 4), heights=[3, 5], seen=[]), [])
        record = Record(WORKING, [5, 5], seen=[(2, 1)])
        self.assertEqual(bounds_without_silence(record), [])

    def test_a_ride_is_awaited_behind_an_unbounded_ride_that_is_seen(self):
        rides = [("ride", 1, 0, 2, None), ("ride", 1, 1, 1, 1)]
        self.assertEqual(riding(LINE, *rides, heights=[3, 5], seen=[(0, 3), (1, 5)]), [
            (0, 1, 0, ("soon", 1)), (1, 1, 0, ("awaited", 2)),
        ])

    def test_an_act_is_a_cause_like_any_other_event(self):
        working = Working(LINE, [("act", 0, []), ("ride", 1, 0, 2, 4)])
        record = Record(working, [3, 5], seen=[(0, 3)])
        self.assertEqual(bounds_without_silence(record), [(1, 0, 1, ("awaited", 1))])

    def test_all_bounds_are_ascending(self):
        line = Line(2, [(0, 1, 1, 2), (1, 0, 1, 3)], bounds=[(1, 0, 2), (0, 1, 4)])
        working = Working(line, [("free", 0), ("ride", 1, 0, 2, 4), ("ride", 0, 1, 3, 3), ("ride", 0, 0, 1, 2)])
        record = Record(working, [6, 4], seen=[(0, 1), (1, 4), (3, 2)], letters=[(1, 0, 0, 3), (0, 1, 1, 2)])
        expected = [
            (0, 0, 0, ("soon", 3)), (0, 0, 1, ("due", 3)), (0, 1, -3, ("silence", 1, 0, 1)),
            (0, 1, 0, ("awaited", 2)), (0, 1, 0, ("early", 0, 1, 1)), (0, 1, 0, ("late", 1, 0, 0)),
            (0, 1, 1, ("soon", 1)), (0, 1, 4, ("told", 0, 1)), (1, 0, -3, ("silence", 0, 1, 0)),
            (1, 0, 1, ("due", 1)), (1, 0, 1, ("late", 0, 1, 1)), (1, 0, 2, ("early", 1, 0, 0)),
            (1, 0, 2, ("told", 1, 0)),
        ]
        self.assertEqual(bounds_of(record), expected)

    def test_random_bounds_are_ascending(self):
        chance = random.Random(32)
        for record in random_records(chance, 50):
            self.assertEqual(bounds_of(record), sorted(bounds_of(record)))


class TestPlacings(Case):

    def test_settings_at_their_bounds(self):
        for settings, expected in [
            ([0, 0], []), ([0, -1], []), ([0, 2], []),
            ([0, -2], [(0, 1, 1, ("silence", 1, 0, 0))]),
            ([0, 3], [(1, 0, 2, ("silence", 0, 1, 0))]),
            ([-7, -2], [(1, 0, 2, ("silence", 0, 1, 0))]),
            ([-7, -1], [(1, 0, 2, ("silence", 0, 1, 0)), (1, 0, 5, ("awaited", 1))]),
        ]:
            self.assertEqual(broken_bounds(EXAMPLE, settings), expected)
            self.assertIs(is_placing(EXAMPLE, settings), not expected)
        self.assertEqual(broken_bounds(record=EXAMPLE, settings=[5, 5]), [])
        self.assertIs(is_placing(record=EXAMPLE, settings=[5, 5]), True)

    def test_a_bound_of_one_box_holds_for_all_settings_or_none(self):
        for height, possible in ((6, True), (7, False)):
            record = Record(Working(Line(1, []), [("free", 0), ("ride", 0, 0, 1, 4)]), [height], seen=[(0, 3)])
            for setting in (-5, 0, 5):
                self.assertIs(is_placing(record, [setting]), possible)
                expected = [] if possible else [(0, 0, -1, ("awaited", 1))]
                self.assertEqual(broken_bounds(record, [setting]), expected)

    def test_lists_of_another_length(self):
        for settings in ([], [0], [0, 0, 0], [0] * 9):
            self.assertIs(is_placing(EXAMPLE, settings), False)
        for settings in ([], [9]):
            self.refuses("BadSettings", (len(settings),), lambda: broken_bounds(EXAMPLE, settings))
        for settings in ([0, 0, 0], [9] * 7):
            self.refuses("BadSettings", (2,), lambda: broken_bounds(EXAMPLE, settings))

    def test_placings_are_the_settings_of_the_runs_that_hold_the_record(self):
        chance = random.Random(33)
        held = refused = 0
        for record in random_records(chance, 120):
            size = record.line.size
            for others in itertools.product(range(-4, 5), repeat=size - 1):
                settings = [0] + list(others)
                expected = holds(record, settings)
                held += expected
                refused += not expected
                self.assertIs(is_placing(record, settings), expected)
                self.assertEqual(not broken_bounds(record, settings), expected)
        self.assertTrue(held > 200 and refused > 1000, (held, refused))

    def test_the_settings_of_a_run_are_a_placing_of_its_record(self):
        chance = random.Random(34)
        found = 0
        for _ in range(200):
            working = random_working(chance, random_line(chance, boxes=4, longest=2), chance.randint(0, 6))
            record = true_record(chance, working)
            if record is not None and min(record.heights()) >= 0:
                found += 1
                self.assertIs(is_placing(record, [6 - height for height in record.heights()]), True)
        self.assertGreater(found, 50)


class TestCopies(Case):

    def test_nothing_is_changed_and_every_list_is_new(self):
        before = frozen(record_answers(EXAMPLE))
        settings = [0, 3]
        self.same_after_spoiling(lambda: [bounds_of(EXAMPLE), broken_bounds(EXAMPLE, settings)])
        is_placing(EXAMPLE, settings)
        self.assertEqual(settings, [0, 3])
        self.assertEqual(frozen(record_answers(EXAMPLE)), before)


if __name__ == "__main__":
    unittest.main()
