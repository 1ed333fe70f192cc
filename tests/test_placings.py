"""Points 34 to 36: placings with a wish, and how long a box can go on without anything new."""

import itertools
import random
import unittest

from helpers import Case, distances, frozen, possible_records, record_answers, small_placings
from surerails.lines import Line
from surerails.placings import earliest_placing, latest_placing, placing_with, ticks_left
from surerails.records import Record
from surerails.workings import Working

LINE = Line(2, [(0, 1, 1, 2), (1, 0, 1, 3)])
WORKING = Working(LINE, [("free", 0), ("ride", 1, 0, 2, 4), ("act", 0, [(1, 1)])])
EXAMPLE = Record(WORKING, [1, -1], seen=[(0, 1)])
SILENT = Record(WORKING, [9, 9])
# The setting of the box 0 minus that of the box 1 is at most 3; there is no other bound.
ONE_WAY = Record(Working(Line(2, [(0, 1, 2, None)]), []), [9, 9], letters=[(0, 1, 4, 9)])
OVERDUE = Record(Working(Line(1, []), [("free", 0), ("ride", 0, 0, 1, 4)]), [7], seen=[(0, 3)])


def raised(record, box, hours):
    """The record with the height of the box greater by some hours."""
    heights = record.heights()
    heights[box] += hours
    return Record(record.working, heights, seen=record.seen(), letters=record.letters())


class TestLatestAndEarliest(Case):

    def check(self, record, box, far):
        lengths = distances(record)
        late = latest_placing(record, box, far=far)
        early = earliest_placing(record, box, far=far)
        self.placing(record, late)
        self.placing(record, early)
        for other in range(record.line.size):
            if (box, other) in lengths:
                self.assertEqual(late[other], lengths[box, other])
            else:
                self.assertGreaterEqual(late[other], far)
            if (other, box) in lengths:
                self.assertEqual(early[other], -lengths[other, box])
            else:
                self.assertLessEqual(early[other], far)

    def test_the_example_of_the_document(self):
        self.assertEqual(latest_placing(EXAMPLE, 0), [0, 2])
        self.assertEqual(latest_placing(EXAMPLE, 1), [1, 0])
        self.assertEqual(earliest_placing(EXAMPLE, 0), [0, -1])
        self.assertEqual(earliest_placing(record=EXAMPLE, box=1, far=50), [-2, 0])

    def test_far_changes_nothing_where_there_are_bounds(self):
        for far in (-10 ** 9, -5, 5, 10 ** 9):
            self.assertEqual(latest_placing(EXAMPLE, 0, far=far), [0, 2])
            self.assertEqual(earliest_placing(EXAMPLE, 0, far=far), [0, -1])

    def test_far_beyond_what_the_bounds_give(self):
        for far in (4, 50, 10 ** 9):
            late, early = latest_placing(ONE_WAY, 0, far=far), earliest_placing(ONE_WAY, 1, far=-far)
            self.assertTrue(late[0] == 0 and late[1] >= far, late)
            self.assertTrue(early[1] == 0 and early[0] <= -far, early)

    def test_far_short_of_what_the_bounds_give(self):
        for far in (-4, -50, -10 ** 9):
            late, early = latest_placing(ONE_WAY, 0, far=far), earliest_placing(ONE_WAY, 1, far=-far)
            self.assertTrue(late[0] == 0 and late[1] >= -3, late)
            self.assertTrue(early[1] == 0 and early[0] <= 3, early)

    def test_far_is_0_if_it_is_not_passed(self):
        self.assertGreaterEqual(latest_placing(ONE_WAY, 0)[1], 0)
        self.assertLessEqual(earliest_placing(ONE_WAY, 1)[0], 0)

    def test_bounds_between_boxes_that_are_not_bounded_from_the_box(self):
        line = Line(4, [], bounds=[(1, 2, 3), (2, 1, 5), (0, 1, 2)])
        record = Record(Working(line, []), [0, 0, 0, 0])
        for box, far in itertools.product(range(4), (-20, -2, 0, 2, 20)):
            self.check(record, box, far)

    def test_one_box(self):
        record = Record(Working(Line(1, []), []), [3])
        self.assertEqual([latest_placing(record, 0, far=9), earliest_placing(record, 0, far=-9)], [[0], [0]])

    def test_at_random(self):
        chance = random.Random(50)
        for record in possible_records(chance, 100, boxes=6):
            for box in range(record.line.size):
                self.check(record, box, chance.choice([-30, -3, -1, 0, 1, 3, 30]))

    def test_against_all_small_settings(self):
        chance = random.Random(51)
        for record in possible_records(chance, 50):
            rows = small_placings(record)
            late = latest_placing(record, 0, far=20)
            early = earliest_placing(record, 0, far=-20)
            for other in range(record.line.size):
                self.assertGreaterEqual(late[other], max(settings[other] for settings in rows))
                self.assertLessEqual(early[other], min(settings[other] for settings in rows))

    def test_the_greater_and_the_lesser_settings_of_two_placings_are_placings(self):
        chance = random.Random(52)
        for record in possible_records(chance, 60, boxes=5):
            boxes = range(record.line.size)
            rows = [latest_placing(record, box, far=box) for box in boxes]
            rows += [earliest_placing(record, box, far=-box) for box in boxes]
            for one, other in itertools.product(rows, repeat=2):
                self.placing(record, [max(pair) for pair in zip(one, other)])
                self.placing(record, [min(pair) for pair in zip(one, other)])

    def test_the_errors_in_their_order(self):
        for call in (latest_placing, earliest_placing):
            for box in (-1, 2):
                self.refuses("NoBox", (box,), lambda: call(SILENT, box, far=3))
            for box in (0, 1):
                self.refuses_as_impossible(SILENT, lambda: call(SILENT, box, far=3))
            self.refuses_as_impossible(OVERDUE, lambda: call(OVERDUE, 0))
            self.assertRaises(TypeError, call, EXAMPLE, 0, 3)


class TestPlacingWith(Case):

    def check(self, record, first, second, hours):
        settings = placing_with(record, first, second, hours)
        self.placing(record, settings)
        self.assertEqual(settings[second] - settings[first], hours)

    def test_every_number_between_the_least_and_the_greatest(self):
        for hours in (-1, 0, 1, 2):
            self.check(EXAMPLE, 0, 1, hours)
            self.check(EXAMPLE, 1, 0, -hours)
        for hours in (-10 ** 9, -2, 3, 10 ** 9):
            self.refuses("NoPlacing", (-1, 2), lambda: placing_with(EXAMPLE, 0, 1, hours))
            self.refuses("NoPlacing", (-2, 1), lambda: placing_with(EXAMPLE, 1, 0, -hours))

    def test_as_great_as_one_likes(self):
        for hours in (-3, 0, 10 ** 9):
            self.check(ONE_WAY, 0, 1, hours)
            self.check(ONE_WAY, 1, 0, -hours)
        self.refuses("NoPlacing", (-3, None), lambda: placing_with(ONE_WAY, 0, 1, -4))
        self.refuses("NoPlacing", (None, 3), lambda: placing_with(record=ONE_WAY, first=1, second=0, hours=4))

    def test_no_bounds_at_all(self):
        record = Record(Working(Line(3, []), []), [0, 0, 0])
        for hours in (-10 ** 9, 0, 10 ** 9):
            self.check(record, 2, 1, hours)

    def test_the_same_box(self):
        for record in (EXAMPLE, ONE_WAY):
            self.check(record, 1, 1, 0)
            for hours in (-1, 1):
                self.refuses("NoPlacing", (0, 0), lambda: placing_with(record, 1, 1, hours))

    def test_at_random(self):
        chance = random.Random(53)
        for record in possible_records(chance, 80, boxes=5):
            lengths = distances(record)
            for first, second in itertools.product(range(record.line.size), repeat=2):
                greatest = lengths.get((first, second))
                back = lengths.get((second, first))
                least = None if back is None else -back
                begin = -9 if least is None else least
                end = 9 if greatest is None else greatest
                for hours in {begin, end, (begin + end) // 2}:
                    if begin <= end:
                        self.check(record, first, second, hours)
                values = (least, greatest)
                if least is not None:
                    self.refuses("NoPlacing", values, lambda: placing_with(record, first, second, least - 1))
                if greatest is not None:
                    self.refuses("NoPlacing", values, lambda: placing_with(record, first, second, greatest + 1))

    def test_the_errors_in_their_order(self):
        for box in (-1, 2):
            self.refuses("NoBox", (box,), lambda: placing_with(SILENT, box, 7, 99))
            self.refuses("NoBox", (box,), lambda: placing_with(SILENT, 1, box, 99))
        self.refuses_as_impossible(SILENT, lambda: placing_with(SILENT, 0, 1, 99))
        self.refuses_as_impossible(SILENT, lambda: placing_with(SILENT, 0, 0, 99))


class TestTicksLeft(Case):

    def check(self, record, box, hours):
        self.assertEqual(ticks_left(record, box), hours)
        if hours is None:
            self.assertIsNotNone(distances(raised(record, box, 500)))
        else:
            self.assertIsNotNone(distances(raised(record, box, hours)))
            self.assertIsNone(distances(raised(record, box, hours + 1)))

    def test_the_example_of_the_document(self):
        # The setting of the box 1 is at most 2 greater and at most 1 less.
        self.check(EXAMPLE, 0, 3)
        self.check(EXAMPLE, 1, 3)

    def test_none_left(self):
        self.check(Record(WORKING, [3, 0]), 0, 0)
        self.check(Record(WORKING, [3, 0]), 1, 0)

    def test_nothing_is_awaited(self):
        self.check(ONE_WAY, 0, None)
        self.check(ONE_WAY, 1, None)
        self.check(Record(Working(Line(1, []), [("free", 0)]), [5], seen=[(0, 3)]), 0, None)

    def test_what_is_awaited_from_a_box_without_bounds(self):
        record = Record(Working(Line(2, [(0, 1, 1, 2)]), []), [0, 0])
        self.check(record, 0, None)
        self.check(record, 1, None)

    def test_a_ride_at_the_box_itself(self):
        for height, left in ((3, 3), (6, 0)):
            self.check(Record(OVERDUE.working, [height], seen=[(0, 3)]), 0, left)

    def test_letters_that_came_do_not_count(self):
        line = Line(2, [(0, 1, 1, 3)], bounds=[(0, 1, 0), (1, 0, 0)])
        for letters, left in (([], 2), ([(0, 1, 0, 1)], 3), ([(0, 1, 0, 1), (0, 1, 1, 2)], 4)):
            self.check(Record(Working(line, []), [2, 2], letters=letters), 1, left - 2)
            self.check(Record(Working(line, []), [2, 2], letters=letters), 0, None)

    def test_a_box_that_has_not_begun(self):
        line = Line(2, [(0, 1, 1, 3)], bounds=[(0, 1, 0), (1, 0, 0)])
        self.check(Record(Working(line, []), [-1, -1]), 1, 3)

    def test_at_random(self):
        chance = random.Random(54)
        counts = [0, 0]
        for record in possible_records(chance, 150, boxes=4):
            for box in range(record.line.size):
                hours = ticks_left(record, box)
                counts[hours is None] += 1
                self.check(record, box, hours)
        self.assertGreater(min(counts), 30)

    def test_the_errors_in_their_order(self):
        for box in (-1, 2):
            self.refuses("NoBox", (box,), lambda: ticks_left(record=SILENT, box=box))
        self.refuses_as_impossible(SILENT, lambda: ticks_left(SILENT, 0))


class TestCopies(Case):

    def test_nothing_is_changed_and_every_list_is_new(self):
        before = frozen(record_answers(EXAMPLE))
        self.same_after_spoiling(lambda: [
            latest_placing(EXAMPLE, 0), earliest_placing(EXAMPLE, 1), placing_with(EXAMPLE, 0, 1, 1),
            ticks_left(EXAMPLE, 0),
        ])
        self.assertEqual(frozen(record_answers(EXAMPLE)), before)


if __name__ == "__main__":
    unittest.main()
