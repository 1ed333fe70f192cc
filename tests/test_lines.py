"""Points 7 and 8: the line."""

import unittest

from helpers import Case, frozen, line_answers, spoil
from surerails.lines import Line

WIRES = [(2, 0, 4, None), (0, 2, 4, 9), (1, 0, 1, 3), (0, 1, 1, 2), (1, 2, 1, None)]


def line_with(*wires):
    return Line(3, list(wires))


def line_bound(*bounds):
    return Line(3, [], bounds=bounds)


class TestLine(Case):

    def test_wires_are_listed_in_ascending_order(self):
        self.assertEqual(
            Line(3, WIRES).wires(),
            [(0, 1, 1, 2), (0, 2, 4, 9), (1, 0, 1, 3), (1, 2, 1, None), (2, 0, 4, None)],
        )

    def test_clock_bounds_are_listed_in_ascending_order(self):
        bounds = [(2, 1, 0), (0, 1, 9), (1, 0, 2), (0, 2, 3)]
        expected = [(0, 1, 9), (0, 2, 3), (1, 0, 2), (2, 1, 0)]
        self.assertEqual(Line(3, [], bounds=bounds).bounds(), expected)
        self.assertEqual(Line(3, [], bounds=tuple(bounds)).bounds(), expected)

    def test_without_bounds_there_are_none(self):
        self.assertEqual(Line(3, WIRES).bounds(), [])
        self.assertEqual(Line(3, WIRES, bounds=[]).bounds(), [])

    def test_bounds_are_passed_by_name_alone(self):
        self.assertRaises(TypeError, Line, 3, WIRES, [])

    def test_size_is_the_number_of_boxes(self):
        self.assertEqual(Line(3, WIRES).size, 3)
        self.assertEqual(Line(size=7, wires=[]).size, 7)

    def test_the_least_line_has_one_box(self):
        line = Line(1, [])
        self.assertEqual(line_answers(line), [1, [], [], [[]], [[]], []])

    def test_wire_gives_low_and_high(self):
        line = Line(3, WIRES)
        self.assertEqual(line.wire(0, 2), (4, 9))
        self.assertEqual(line.wire(source=2, target=0), (4, None))
        self.assertIs(type(line.wire(0, 1)), tuple)

    def test_sources_and_targets_are_ascending(self):
        line = Line(4, [(3, 1, 1, 1), (0, 1, 1, 1), (2, 1, 1, 1), (1, 3, 1, 1), (1, 0, 1, 1)])
        self.assertEqual([line.sources(box) for box in range(4)], [[1], [0, 2, 3], [], [1]])
        self.assertEqual([line.targets(box) for box in range(4)], [[1], [0, 3], [1], [1]])
        self.assertEqual((line.sources(box=1), line.targets(box=1)), ([0, 2, 3], [0, 3]))


class TestWrongLine(Case):

    def test_bad_size(self):
        for size in (0, -1, -10 ** 9):
            self.refuses("BadSize", (size,), lambda: Line(size, []))

    def test_bad_size_comes_first(self):
        self.refuses("BadSize", (0,), lambda: Line(0, [(5, 5, 0, 0)], bounds=[(7, 7, -1)]))

    def test_wires_from_and_to_no_box(self):
        for box in (-1, 3, 10 ** 9):
            self.refuses("NoBox", (box,), lambda: line_with((box, 0, 1, 1)))
            self.refuses("NoBox", (box,), lambda: line_with((0, box, 1, 1)))
        self.assertEqual(line_with((0, 2, 1, 1), (2, 0, 1, 1)).size, 3)

    def test_the_source_is_looked_at_before_the_target_and_both_before_the_wire(self):
        self.refuses("NoBox", (4,), lambda: line_with((4, 3, 0, 0)))
        self.refuses("NoBox", (3,), lambda: line_with((0, 3, 0, 0)))
        self.refuses("NoBox", (3,), lambda: line_with((3, 3, 1, 1)))

    def test_a_wire_to_its_own_box(self):
        self.refuses("BadWire", (1, 1), lambda: line_with((1, 1, 1, 1)))

    def test_low_is_at_least_one(self):
        for low in (0, -1):
            self.refuses("BadWire", (0, 1), lambda: line_with((0, 1, low, 2)))
            self.refuses("BadWire", (0, 1), lambda: line_with((0, 1, low, None)))
        self.assertEqual(line_with((0, 1, 1, 1)).wire(0, 1), (1, 1))
        self.assertEqual(line_with((0, 1, 1, None)).wire(0, 1), (1, None))

    def test_high_is_at_least_low(self):
        self.refuses("BadWire", (0, 1), lambda: line_with((0, 1, 3, 2)))
        self.refuses("BadWire", (0, 1), lambda: line_with((0, 1, 1, 0)))
        self.assertEqual(line_with((0, 1, 3, 3)).wire(0, 1), (3, 3))
        self.assertEqual(line_with((0, 1, 10 ** 9, 10 ** 9)).wire(0, 1), (10 ** 9, 10 ** 9))

    def test_the_same_wire_twice(self):
        self.refuses("BadWire", (0, 1), lambda: line_with((0, 1, 1, 2), (1, 0, 1, 2), (0, 1, 3, 4)))
        self.refuses("BadWire", (0, 1), lambda: line_with((0, 1, 1, 2), (0, 1, 1, 2)))
        self.assertEqual(len(line_with((0, 1, 1, 2), (1, 0, 1, 2)).wires()), 2)

    def test_wires_are_checked_entry_by_entry(self):
        self.refuses("BadWire", (1, 1), lambda: line_with((0, 1, 1, 1), (1, 1, 1, 1), (9, 0, 1, 1)))
        self.refuses("NoBox", (9,), lambda: line_with((0, 1, 1, 1), (9, 0, 1, 1), (1, 1, 1, 1)))
        self.refuses("NoBox", (8,), lambda: line_with((0, 8, 1, 1), (9, 0, 1, 1)))

    def test_wires_come_before_clock_bounds(self):
        self.refuses("BadWire", (1, 1), lambda: Line(2, [(1, 1, 1, 1)], bounds=[(5, 0, 1)]))

    def test_clock_bounds_of_no_box(self):
        for box in (-1, 3):
            self.refuses("NoBox", (box,), lambda: line_bound((box, 0, 1)))
            self.refuses("NoBox", (box,), lambda: line_bound((0, box, 1)))
        self.refuses("NoBox", (5,), lambda: line_bound((5, 4, -1)))
        self.refuses("NoBox", (4,), lambda: line_bound((0, 4, -1)))
        self.refuses("NoBox", (5,), lambda: line_bound((5, 5, 1)))

    def test_bad_clock_bounds(self):
        self.refuses("BadBound", (1, 1), lambda: line_bound((1, 1, 4)))
        self.refuses("BadBound", (2, 1), lambda: line_bound((2, 1, -1)))
        self.refuses("BadBound", (2, 1), lambda: line_bound((2, 1, 4), (2, 1, 3)))
        self.assertEqual(line_bound((2, 1, 0), (1, 2, 0)).bounds(), [(1, 2, 0), (2, 1, 0)])

    def test_clock_bounds_are_checked_entry_by_entry(self):
        self.refuses("BadBound", (1, 1), lambda: line_bound((0, 1, 0), (1, 1, 0), (9, 0, 0)))
        self.refuses("NoBox", (9,), lambda: line_bound((0, 1, 0), (9, 0, 0), (1, 1, 0)))

    def test_wire_refuses_what_is_none(self):
        line = Line(3, WIRES)
        for box in (-1, 3):
            self.refuses("NoBox", (box,), lambda: line.wire(box, 0))
            self.refuses("NoBox", (box,), lambda: line.wire(0, box))
        self.refuses("NoBox", (-2,), lambda: line.wire(-2, -3))
        self.refuses("NoWire", (2, 1), lambda: line.wire(2, 1))
        self.refuses("NoWire", (1, 1), lambda: line.wire(1, 1))

    def test_sources_and_targets_refuse_no_box(self):
        line = Line(3, WIRES)
        for box in (-1, 3):
            self.refuses("NoBox", (box,), lambda: line.sources(box))
            self.refuses("NoBox", (box,), lambda: line.targets(box))


class TestCopies(Case):

    def test_passed_lists_are_neither_changed_nor_kept(self):
        wires, bounds = list(WIRES), [(2, 1, 0), (0, 1, 9)]
        line = Line(3, wires, bounds=bounds)
        self.assertEqual((wires, bounds), (WIRES, [(2, 1, 0), (0, 1, 9)]))
        before = frozen(line_answers(line))
        spoil(wires)
        spoil(bounds)
        self.assertEqual(frozen(line_answers(line)), before)

    def test_returned_lists_are_new(self):
        line = Line(3, WIRES, bounds=[(2, 1, 0)])
        self.same_after_spoiling(lambda: line_answers(line))

    def test_a_refused_line_leaves_its_lists_as_they_were(self):
        wires = [(1, 0, 1, 2), (0, 1, 0, 1)]
        self.refuses("BadWire", (0, 1), lambda: Line(2, wires))
        self.assertEqual(wires, [(1, 0, 1, 2), (0, 1, 0, 1)])


if __name__ == "__main__":
    unittest.main()
