"""Point 43: the least and the greatest number of hours between what was seen."""

import itertools
import random
import unittest

from helpers import Case, distances, frozen, least_over, possible_records, record_answers, small_placings
from surerails.ages import age_span, hours_apart
from surerails.lines import Line
from surerails.records import Record
from surerails.workings import Working

LINE = Line(2, [(0, 1, 1, 2), (1, 0, 1, 3)])
WORKING = Working(LINE, [("free", 0), ("ride", 1, 0, 2, 4), ("act", 0, [(1, 1)]), ("free", 1)])
# The setting of the box 1 minus that of the box 0 is from -1 to 2.
EXAMPLE = Record(WORKING, [1, 0], seen=[(0, 1), (3, 0)], letters=[(1, 0, 0, 1)])
SILENT = Record(WORKING, [9, 9], seen=[(0, 1)])
# The setting of the box 0 minus that of the box 1 is at most 3; there is no other bound.
ONE_WAY = Record(
    Working(Line(2, [(0, 1, 2, None)]), [("free", 0), ("free", 1), ("act", 0, [])]), [9, 9],
    seen=[(0, 5), (1, 6), (2, 5)], letters=[(0, 1, 4, 9)])


def span_by_search(rows, first, second):
    """The least and the greatest number of hours from the first moment to the second in all small placings."""
    def hours(settings):
        return settings[second[0]] + second[1] - settings[first[0]] - first[1]
    least = least_over(rows, hours)
    greatest = least_over(rows, lambda settings: -hours(settings))
    return (least, None if greatest is None else -greatest)


class TestAges(Case):

    def test_the_same_box(self):
        for now in (1, 2, 9):
            self.assertEqual(age_span(EXAMPLE, 0, now, 0), (now - 1, now - 1))
        self.assertEqual(age_span(ONE_WAY, 1, 9, 1), (3, 3))

    def test_another_box(self):
        lengths = distances(EXAMPLE)
        least, greatest = -lengths[1, 0], lengths[0, 1]
        self.assertLess(least, greatest)
        for now in (1, 5):
            self.assertEqual(age_span(EXAMPLE, 1, now, 0), (now - 1 + least, now - 1 + greatest))
            self.assertEqual(age_span(EXAMPLE, 0, now, 3), (now - greatest, now - least))

    def test_as_great_or_as_small_as_one_likes(self):
        self.assertEqual(age_span(ONE_WAY, 1, 9, 0), (9 - 5 - 3, None))
        self.assertEqual(age_span(record=ONE_WAY, box=0, now=12, event=1), (None, 12 - 6 + 3))
        record = Record(Working(Line(2, []), [("free", 0)]), [0, -1], seen=[(0, 0)])
        self.assertEqual(age_span(record, 1, 0, 0), (None, None))

    def test_a_negative_age(self):
        # The event may come after the hour at which the box shows now.
        record = Record(Working(Line(2, [], bounds=[(0, 1, 0), (1, 0, 0)]), [("free", 0)]), [5, -1], seen=[(0, 5)])
        self.assertEqual(age_span(record, 1, 2, 0), (-3, -3))

    def test_the_errors_in_their_order(self):
        for record in (EXAMPLE, SILENT):
            for box in (-1, 2):
                self.refuses("NoBox", (box,), lambda: age_span(record, box, -1, 99))
            for now in (-1, record.height(0) - 1):
                self.refuses("BadReading", (0, now), lambda: age_span(record, 0, now, 99))
            for event in (-1, 4):
                self.refuses("NoEvent", (event,), lambda: age_span(record, 0, 9, event))
            for event in (1, 2):
                self.refuses("NotSeen", (event,), lambda: age_span(record, 0, 9, event))
        self.refuses_as_impossible(SILENT, lambda: age_span(SILENT, 0, 9, 0))

    def test_against_all_small_settings(self):
        chance = random.Random(80)
        found = 0
        for record in possible_records(chance, 100):
            rows = small_placings(record, width=24)
            for event, reading in record.seen():
                box = chance.randrange(record.line.size)
                now = max(0, record.height(box)) + chance.choice([0, 0, 2])
                moment = (record.working.box_of(event), reading)
                expected = span_by_search(rows, moment, (box, now))
                found += expected != (None, None)
                self.assertEqual(age_span(record, box, now, event), expected)
        self.assertGreater(found, 80)


class TestApart(Case):

    def test_the_same_event(self):
        self.assertEqual(hours_apart(ONE_WAY, 1, 1), (0, 0))

    def test_two_events_at_one_box(self):
        self.assertEqual(hours_apart(ONE_WAY, 0, 2), (0, 0))
        record = Record(Working(Line(1, []), [("free", 0), ("free", 0)]), [9], seen=[(0, 2), (1, 9)])
        self.assertEqual([hours_apart(record, 0, 1), hours_apart(record, 1, 0)], [(7, 7), (-7, -7)])

    def test_two_boxes(self):
        self.assertEqual(hours_apart(ONE_WAY, 0, 1), (1 - 3, None))
        self.assertEqual(hours_apart(record=ONE_WAY, first=1, second=0), (None, -1 + 3))
        lengths = distances(EXAMPLE)
        self.assertEqual(hours_apart(EXAMPLE, 0, 3), (-1 - lengths[1, 0], -1 + lengths[0, 1]))

    def test_no_bounds_at_all(self):
        record = Record(Working(Line(2, []), [("free", 0), ("free", 1)]), [0, 0], seen=[(0, 0), (1, 0)])
        self.assertEqual(hours_apart(record, 0, 1), (None, None))

    def test_the_errors_in_their_order(self):
        for record in (EXAMPLE, SILENT):
            for event in (-1, 4):
                self.refuses("NoEvent", (event,), lambda: hours_apart(record, event, 99))
                self.refuses("NoEvent", (event,), lambda: hours_apart(record, 1, event))
            for event in (1, 2):
                self.refuses("NotSeen", (event,), lambda: hours_apart(record, event, 1))
                self.refuses("NotSeen", (event,), lambda: hours_apart(record, 0, event))
        self.refuses_as_impossible(SILENT, lambda: hours_apart(SILENT, 0, 0))

    def test_against_all_small_settings(self):
        chance = random.Random(81)
        found = 0
        for record in possible_records(chance, 100):
            rows = small_placings(record, width=24)
            working = record.working
            for (first, begin), (second, end) in itertools.product(record.seen(), repeat=2):
                moments = ((working.box_of(first), begin), (working.box_of(second), end))
                expected = span_by_search(rows, *moments)
                found += expected != (None, None)
                self.assertEqual(hours_apart(record, first, second), expected)
        self.assertGreater(found, 100)


class TestCopies(Case):

    def test_nothing_is_changed(self):
        before = frozen(record_answers(EXAMPLE))
        age_span(EXAMPLE, 1, 5, 0)
        hours_apart(EXAMPLE, 0, 3)
        self.assertEqual(frozen(record_answers(EXAMPLE)), before)


if __name__ == "__main__":
    unittest.main()
