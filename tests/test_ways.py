"""Points 32 and 33: ways of bounds, bad rings, and how far apart two clocks can be."""

import itertools
import random
import unittest

from helpers import (
    Case, distances, frozen, impossible_records, keeps_all, least_bounds, possible_records, random_records,
    record_answers, small_placings,
)
from surerails.bounds import bounds_of
from surerails.lines import Line
from surerails.records import Record
from surerails.ways import find_bad_ring, is_bad_ring, is_possible, widest
from surerails.workings import Working

LINE = Line(2, [(0, 1, 1, 2), (1, 0, 1, 3)])
WORKING = Working(LINE, [("free", 0), ("ride", 1, 0, 2, 4), ("act", 0, [(1, 1)])])
EXAMPLE = Record(WORKING, [1, -1], seen=[(0, 1)])
# (0, 1, -7, silence) and (1, 0, -8, silence)
SILENT = Record(WORKING, [9, 9])
# (1, 0, 6, told), (2, 1, -2, late), (1, 2, 3, early) are the tightest; nothing leads to 0.
CHAIN = Record(
    Working(Line(3, [(1, 2, 1, 2)], bounds=[(1, 0, 6)]), [("free", 1), ("ride", 2, 0, 2, 3)]),
    [-1, 2, 6], seen=[(0, 2)], letters=[(1, 2, 0, 4), (1, 2, 1, 5), (1, 2, 2, 6)],
)
# Only one box, whose ride should have come.
OVERDUE = Record(Working(Line(1, []), [("free", 0), ("ride", 0, 0, 1, 4)]), [7], seen=[(0, 3)])


class TestWidest(Case):

    def check(self, record, first, second, hours):
        found = widest(record, first, second)
        if hours is None:
            self.assertIsNone(found)
            return
        self.assertIs(type(found), tuple)
        self.assertEqual(found[0], hours)
        self.assertEqual(self.length_of_way(record, found[1], first, second), hours)

    def test_the_example_of_the_document(self):
        self.assertEqual(widest(EXAMPLE, 0, 1), (2, [(1, 0, 2, ("silence", 0, 1, 0))]))
        self.assertEqual(widest(record=EXAMPLE, first=1, second=0), (1, [(0, 1, 1, ("silence", 1, 0, 0))]))

    def test_the_same_box(self):
        for record in (EXAMPLE, CHAIN, Record(Working(Line(1, []), []), [-1])):
            for box in range(record.line.size):
                self.assertEqual(widest(record, box, box), (0, []))

    def test_no_way_of_bounds_at_all(self):
        record = Record(Working(Line(3, []), []), [5, -1, 0])
        for first, second in itertools.permutations(range(3), 2):
            self.assertIsNone(widest(record, first, second))

    def test_one_direction_alone(self):
        record = Record(Working(Line(2, [(0, 1, 2, None)]), []), [9, 9], letters=[(0, 1, 4, 9)])
        self.check(record, 1, 0, 3)
        self.check(record, 0, 1, None)

    def test_ways_of_several_bounds(self):
        self.check(CHAIN, 0, 1, 6)
        self.check(CHAIN, 1, 2, -2)
        self.check(CHAIN, 0, 2, 4)
        self.check(CHAIN, 2, 1, 3)
        self.check(CHAIN, 1, 0, None)
        self.check(CHAIN, 2, 0, None)

    def test_the_least_of_several_ways(self):
        for most, hours in ((8, 7), (7, 7), (6, 6)):
            line = Line(3, [], bounds=[(1, 0, 3), (2, 1, 4), (2, 0, most), (0, 2, 0)])
            self.check(Record(Working(line, []), [0, 0, 0]), 0, 2, hours)

    def test_against_the_least_lengths(self):
        chance = random.Random(40)
        for record in possible_records(chance, 80, boxes=6):
            lengths = distances(record)
            for pair in itertools.product(range(record.line.size), repeat=2):
                self.check(record, pair[0], pair[1], lengths.get(pair))

    def test_against_all_small_settings(self):
        chance = random.Random(41)
        found = 0
        for record in possible_records(chance, 60):
            placings = small_placings(record)
            for first, second in itertools.product(range(record.line.size), repeat=2):
                answer = widest(record, first, second)
                most = max(settings[second] - settings[first] for settings in placings)
                if answer is None:
                    self.assertGreaterEqual(most, 20)
                else:
                    found += 1
                    self.assertEqual(answer[0], most)
        self.assertGreater(found, 150)

    def test_the_errors_in_their_order(self):
        for box in (-1, 2):
            self.refuses("NoBox", (box,), lambda: widest(SILENT, box, 7))
            self.refuses("NoBox", (box,), lambda: widest(SILENT, 1, box))
        for pair in itertools.product(range(2), repeat=2):
            self.refuses_as_impossible(SILENT, lambda: widest(SILENT, *pair))
        self.refuses_as_impossible(OVERDUE, lambda: widest(OVERDUE, 0, 0))


class TestBadRings(Case):

    def check(self, record):
        ring = find_bad_ring(record)
        self.bad_ring(record, ring)
        self.assertIs(is_bad_ring(record, ring), True)
        self.assertIs(is_possible(record), False)

    def test_none(self):
        for record in (EXAMPLE, CHAIN, Record(Working(Line(1, []), []), [80])):
            self.assertIsNone(find_bad_ring(record))
            self.assertIs(is_possible(record), True)

    def test_both_boxes_are_silent(self):
        self.check(SILENT)
        self.assertEqual(sorted(find_bad_ring(SILENT)), [
            (0, 1, -7, ("silence", 1, 0, 0)), (1, 0, -8, ("silence", 0, 1, 0)),
        ])

    def test_the_sum_decides(self):
        for height, possible in ((1, True), (2, True), (3, True), (4, False)):
            # The bounds are (0, 1, 2 - height) and (1, 0, 1).
            record = Record(Working(LINE, []), [height, 0])
            self.assertIs(is_possible(record), possible)
        self.check(Record(Working(LINE, []), [4, 0]))

    def test_a_ring_of_one_bound(self):
        self.check(OVERDUE)
        self.assertEqual(find_bad_ring(OVERDUE), [(0, 0, -1, ("awaited", 1))])
        record = Record(Working(Line(1, []), [("free", 0), ("ride", 0, 0, 1, 4)]), [6], seen=[(0, 3)])
        self.assertIsNone(find_bad_ring(record))

    def test_a_ring_of_three_bounds(self):
        line = Line(3, [(0, 1, 3, None), (1, 2, 3, None), (2, 0, 3, None)])
        letters = [(0, 1, 5, 5), (1, 2, 5, 5), (2, 0, 5, 5)]
        self.check(Record(Working(line, []), [5, 5, 5], letters=letters))
        self.assertEqual(len(find_bad_ring(Record(Working(line, []), [5, 5, 5], letters=letters))), 3)

    def test_against_all_small_settings(self):
        chance = random.Random(42)
        counts = [0, 0]
        for record in random_records(chance, 150):
            possible = is_possible(record)
            counts[possible] += 1
            self.assertIs(possible, bool(small_placings(record)))
            if possible:
                self.assertIsNone(find_bad_ring(record))
            else:
                self.check(record)
        self.assertGreater(min(counts), 30)

    def test_over_six_boxes(self):
        chance = random.Random(43)
        counts = [0, 0]
        for record in random_records(chance, 200, boxes=6):
            possible = distances(record) is not None
            counts[possible] += 1
            self.assertIs(is_possible(record), possible)
            if not possible:
                self.check(record)
        self.assertGreater(min(counts), 50)

    def test_what_is_no_bad_ring(self):
        first, second = (0, 1, -7, ("silence", 1, 0, 0)), (1, 0, -8, ("silence", 0, 1, 0))
        self.assertIs(is_bad_ring(SILENT, [first, second]), True)
        self.assertIs(is_bad_ring(record=SILENT, ring=[second, first]), True)
        for ring in (
            [], [first], [second], [first, first], [first, second, first], [first, second, first, second],
            [(0, 1, -8, ("silence", 1, 0, 0)), second], [(0, 1, -7, ("silence", 1, 0, 1)), second],
            [(0, 0, -1, ("awaited", 1))], [(7, 7, -1, ("awaited", 1))],
        ):
            self.assertIs(is_bad_ring(SILENT, ring), False, ring)

    def test_a_ring_that_is_not_bad(self):
        ring = [(0, 1, 1, ("silence", 1, 0, 0)), (1, 0, 2, ("silence", 0, 1, 0))]
        self.assertIs(is_bad_ring(EXAMPLE, ring), False)
        record = Record(Working(LINE, []), [3, 0])
        ring = bounds_of(record)
        self.assertEqual(sum(bound[2] for bound in ring), 0)
        self.assertIs(is_bad_ring(record, ring), False)

    def test_a_ring_may_take_bounds_that_are_not_the_tightest(self):
        line = Line(2, [(0, 1, 1, 2), (1, 0, 1, 3)], bounds=[(0, 1, 2)])
        record = Record(Working(line, []), [9, 9])
        self.assertIs(is_bad_ring(record, [(0, 1, 2, ("told", 0, 1)), (1, 0, -8, ("silence", 0, 1, 0))]), True)

    def test_no_box_twice(self):
        overdue = (0, 0, -1, ("awaited", 1))
        self.assertIs(is_bad_ring(OVERDUE, [overdue]), True)
        self.assertIs(is_bad_ring(OVERDUE, [overdue, overdue]), False)

    def test_random_lists_of_bounds(self):
        chance = random.Random(44)
        found = 0
        for record in impossible_records(chance, 120):
            bounds = least_bounds(record)
            for _ in range(40):
                ring = [chance.choice(bounds) for _ in range(chance.randint(1, 3))]
                closed = all(one[0] == other[1] for one, other in zip(ring, ring[1:] + ring[:1]))
                simple = len({bound[1] for bound in ring}) == len(ring)
                expected = closed and simple and sum(bound[2] for bound in ring) < 0
                found += expected
                self.assertIs(is_bad_ring(record, ring), expected)
        self.assertGreater(found, 50)


class TestPossible(Case):

    def test_a_possible_record_has_a_placing(self):
        chance = random.Random(45)
        for record in possible_records(chance, 50):
            self.assertIs(is_possible(record=record), True)
            self.assertTrue(any(keeps_all(bounds_of(record), settings) for settings in small_placings(record)))

    def test_it_raises_nothing(self):
        self.assertIs(is_possible(SILENT), False)
        self.assertIs(is_bad_ring(OVERDUE, []), False)
        self.assertIsInstance(find_bad_ring(record=SILENT), list)


class TestCopies(Case):

    def test_nothing_is_changed_and_every_list_is_new(self):
        before = frozen([record_answers(record) for record in (EXAMPLE, SILENT, CHAIN)])
        ring = find_bad_ring(SILENT)
        kept = list(ring)
        is_bad_ring(SILENT, ring)
        self.assertEqual(ring, kept)
        self.same_after_spoiling(lambda: [
            find_bad_ring(SILENT), widest(CHAIN, 0, 2), widest(CHAIN, 1, 1), widest(EXAMPLE, 0, 1),
        ])
        self.assertEqual(frozen([record_answers(record) for record in (EXAMPLE, SILENT, CHAIN)]), before)


if __name__ == "__main__":
    unittest.main()
