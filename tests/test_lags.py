"""Point 9: ways over the line."""

import itertools
import random
import unittest

from helpers import Case, frozen, line_answers, random_line
from surerails.lags import lag, lag_way, round_trip
from surerails.lines import Line

EXAMPLE = Line(3, [(0, 1, 1, 2), (1, 0, 1, 3), (1, 2, 1, None), (0, 2, 4, 9)])
# Five ways with the same lows lead from 0 to 4; over the highs only 0, 2, 3, 4 counts 9.
EVEN = Line(5, [
    (0, 1, 2, 9), (0, 2, 1, 2), (0, 3, 2, None), (1, 4, 2, 9), (2, 3, 1, 3), (3, 4, 2, 4), (2, 1, 1, 9),
    (0, 4, 4, None), (4, 0, 1, 1),
])


def all_ways(line, source, target, late):
    """All ways without repeated boxes (but for the last one), with their sums."""
    others = [box for box in range(line.size) if box not in (source, target)]
    if source == target and not late:
        return [(0, [source])]
    found = []
    for count in range(len(others) + 1):
        for between in itertools.permutations(others, count):
            way = [source] + list(between) + [target]
            hours = [hours_over(line, pair, late) for pair in zip(way, way[1:])]
            if None not in hours:
                found.append((sum(hours), way))
    return found


def hours_over(line, pair, late):
    for source, target, low, high in line.wires():
        if (source, target) == pair:
            return high if late else low
    return None


class TestLag(Case):

    def test_the_example_of_the_document(self):
        answers = [
            lag(EXAMPLE, 0, 2), lag(EXAMPLE, 0, 2, late=True), lag_way(EXAMPLE, 0, 2), round_trip(EXAMPLE, 0),
        ]
        self.assertEqual(answers, [2, 9, [0, 1, 2], (5, [0, 1, 0])])

    def test_late_is_left_out_as_false_and_passed_by_name_alone(self):
        self.assertEqual(lag(EXAMPLE, 0, 2, late=False), 2)
        self.assertEqual(lag_way(EXAMPLE, 0, 2, late=True), [0, 2])
        self.assertRaises(TypeError, lag, EXAMPLE, 0, 2, True)
        self.assertRaises(TypeError, lag_way, EXAMPLE, 0, 2, True)
        self.assertEqual(lag(line=EXAMPLE, source=0, target=2), 2)
        self.assertEqual(lag_way(line=EXAMPLE, source=0, target=2), [0, 1, 2])

    def test_from_a_box_to_itself(self):
        for box in range(3):
            for late in (False, True):
                self.assertEqual(lag(EXAMPLE, box, box, late=late), 0)
                self.assertEqual(lag_way(EXAMPLE, box, box, late=late), [box])

    def test_no_way(self):
        self.assertIsNone(lag(EXAMPLE, 2, 0))
        self.assertIsNone(lag(EXAMPLE, 2, 0, late=True))
        self.refuses("NoWay", (2, 0), lambda: lag_way(EXAMPLE, 2, 0))
        self.refuses("NoWay", (2, 1), lambda: lag_way(EXAMPLE, 2, 1, late=True))

    def test_an_unbounded_wire_counts_only_by_its_low(self):
        line = Line(2, [(0, 1, 3, None)])
        self.assertEqual((lag(line, 0, 1), lag_way(line, 0, 1)), (3, [0, 1]))
        self.assertIsNone(lag(line, 0, 1, late=True))
        self.refuses("NoWay", (0, 1), lambda: lag_way(line, 0, 1, late=True))

    def test_of_several_ways_the_least_list(self):
        self.assertEqual((lag(EVEN, 0, 4), lag_way(EVEN, 0, 4)), (4, [0, 1, 4]))
        self.assertEqual((lag(EVEN, 0, 4, late=True), lag_way(EVEN, 0, 4, late=True)), (9, [0, 2, 3, 4]))
        short = Line(4, [(0, 1, 1, 1), (1, 3, 1, 1), (0, 2, 1, 1), (2, 3, 1, 1), (0, 3, 2, 2), (1, 2, 1, 1)])
        self.assertEqual(lag_way(short, 0, 3), [0, 1, 3])
        self.assertEqual(lag_way(Line(3, [(0, 2, 2, 2), (0, 1, 1, 1), (1, 2, 1, 1)]), 0, 2), [0, 1, 2])
        self.assertEqual(lag_way(Line(3, [(0, 1, 2, 2), (0, 2, 1, 1), (2, 1, 1, 1)]), 0, 1), [0, 1])

    def test_no_box(self):
        for call in (lag, lag_way):
            for box in (-1, 3):
                self.refuses("NoBox", (box,), lambda: call(EXAMPLE, box, 0))
                self.refuses("NoBox", (box,), lambda: call(EXAMPLE, 0, box))
            self.refuses("NoBox", (5,), lambda: call(EXAMPLE, 5, 4))
            self.refuses("NoBox", (5,), lambda: call(EXAMPLE, 5, 5))
        self.refuses("NoBox", (3,), lambda: lag_way(EXAMPLE, 2, 3))

    def test_against_all_ways(self):
        chance = random.Random(9)
        for _ in range(150):
            line = random_line(chance, boxes=5, longest=3)
            for source, target in itertools.product(range(line.size), repeat=2):
                for late in (False, True):
                    ways = [(0, [source])] if source == target else all_ways(line, source, target, late)
                    if ways:
                        hours, way = min(ways)
                        self.assertEqual(lag(line, source, target, late=late), hours)
                        self.assertEqual(lag_way(line, source, target, late=late), way)
                    else:
                        self.assertIsNone(lag(line, source, target, late=late))
                        self.refuses("NoWay", (source, target), lambda: lag_way(line, source, target, late=late))


class TestRoundTrip(Case):

    def test_a_trip_needs_wires_out_and_back(self):
        self.assertEqual(round_trip(EXAMPLE, 1), (5, [1, 0, 1]))
        self.assertIsNone(round_trip(EXAMPLE, 2))
        self.assertIsNone(round_trip(Line(1, []), 0))
        self.assertIsNone(round_trip(Line(2, [(0, 1, 1, 1)]), 0))

    def test_no_unbounded_wire_out_or_back(self):
        self.assertIsNone(round_trip(Line(2, [(0, 1, 1, None), (1, 0, 1, 1)]), 0))
        self.assertIsNone(round_trip(Line(2, [(0, 1, 1, 1), (1, 0, 1, None)]), 0))

    def test_of_several_trips_the_least_list(self):
        line = Line(4, [
            (0, 2, 1, 2), (2, 0, 1, 4), (0, 1, 1, 1), (1, 3, 1, 2), (3, 0, 1, 3), (0, 3, 1, 3), (2, 3, 1, 1),
        ])
        self.assertEqual(round_trip(line, 0), (6, [0, 1, 3, 0]))
        self.assertEqual(round_trip(line, 3), (6, [3, 0, 1, 3]))
        self.assertEqual(round_trip(line=line, box=2), (6, [2, 0, 2]))

    def test_no_box(self):
        for box in (-1, 3):
            self.refuses("NoBox", (box,), lambda: round_trip(EXAMPLE, box))

    def test_against_all_ways(self):
        chance = random.Random(10)
        for _ in range(200):
            line = random_line(chance, boxes=5, longest=3)
            for box in range(line.size):
                trips = all_ways(line, box, box, True)
                trips = [(hours, way) for hours, way in trips if len(way) > 2]
                self.assertEqual(round_trip(line, box), min(trips) if trips else None)


class TestCopies(Case):

    def test_nothing_is_changed_and_every_list_is_new(self):
        before = frozen(line_answers(EVEN))
        self.same_after_spoiling(lambda: [lag_way(EVEN, 0, 4), lag_way(EVEN, 4, 4), round_trip(EVEN, 0)])
        lag(EVEN, 0, 4)
        self.assertEqual(frozen(line_answers(EVEN)), before)


if __name__ == "__main__":
    unittest.main()
