"""Point 24: cuts."""

import itertools
import unittest

from helpers import Case
from surerails.cuts import Cut


def cut_answers(cut):
    return [list(cut), [cut.height(box) for box in range(len(list(cut)))]]


class TestCut(Case):

    def test_heights(self):
        cut = Cut([3, -1, 0])
        self.assertEqual([cut.height(box) for box in range(3)], [3, -1, 0])
        self.assertEqual(Cut(heights=[4]).height(box=0), 4)

    def test_no_box(self):
        for box in (-1, 3, -3):
            self.refuses("NoBox", (box,), lambda: Cut([3, -1, 0]).height(box))
        self.refuses("NoBox", (0,), lambda: Cut([]).height(0))

    def test_iterating_gives_the_heights_in_order(self):
        cut = Cut([3, -1, 0])
        self.assertEqual(list(cut), [3, -1, 0])
        self.assertEqual([height for height in cut], [3, -1, 0])
        self.assertEqual(list(zip(cut, cut)), [(3, 3), (-1, -1), (0, 0)])
        self.assertEqual(list(Cut([])), [])

    def test_the_moments_of_a_cut(self):
        cut = Cut([3, -1, 0])
        for moment in ((0, 0), (0, 3), (2, 0)):
            self.assertIs(moment in cut, True, moment)
        for moment in ((0, 4), (1, 0), (2, 1), (3, 0), (-1, 0), (-3, 0), (10 ** 9, 0)):
            self.assertIs(moment in cut, False, moment)
            self.assertIs(moment not in cut, True, moment)

    def test_joining_and_meeting(self):
        first, second = Cut([3, -1, 0]), Cut([2, 5, 0])
        self.assertEqual(list(first | second), [3, 5, 0])
        self.assertEqual(list(first & second), [2, -1, 0])
        self.assertIsInstance(first | second, Cut)
        self.assertIsInstance(first & second, Cut)
        self.assertEqual((list(first), list(second)), ([3, -1, 0], [2, 5, 0]))

    def test_equal_cuts(self):
        self.assertIs(Cut([3, -1]) == Cut([3, -1]), True)
        self.assertIs(Cut([3, -1]) != Cut([3, -1]), False)
        self.assertIs(Cut([]) == Cut([]), True)
        for other in (Cut([3, 0]), Cut([-1, 3]), Cut([3]), Cut([3, -1, 0]), Cut([])):
            self.assertIs(Cut([3, -1]) == other, False)
            self.assertIs(Cut([3, -1]) != other, True)

    def test_a_cut_is_equal_to_no_other_kind_of_value(self):
        for other in ([3, -1], (3, -1), None, 3, "cut", {}, {3, -1}):
            self.assertIs(Cut([3, -1]) == other, False)
            self.assertIs(other == Cut([3, -1]), False)
            self.assertIs(Cut([3, -1]) != other, True)
        self.assertIs(Cut([]) == [], False)

    def test_within(self):
        self.assertIs(Cut([2, -1]).within(Cut([2, -1])), True)
        self.assertIs(Cut([2, -1]).within(other=Cut([3, 0])), True)
        self.assertIs(Cut([2, 0]).within(Cut([3, -1])), False)
        self.assertIs(Cut([3, -1]).within(Cut([2, 0])), False)
        self.assertIs(Cut([]).within(Cut([])), True)

    def test_within_is_the_order_of_joining_and_meeting(self):
        cuts = [Cut(heights) for heights in itertools.product((-1, 0, 1), repeat=2)]
        for first, second in itertools.product(cuts, repeat=2):
            self.assertIs(first.within(second), (first | second) == second)
            self.assertIs(first.within(second), (first & second) == first)

    def test_the_constructor_raises_no_error(self):
        self.assertEqual(list(Cut([-7])), [-7])

    def test_the_methods_stand_in_the_class(self):
        for name in ("__iter__", "__contains__", "__or__", "__and__", "__eq__", "height", "within"):
            self.assertIn(name, vars(Cut))


class TestCopies(Case):

    def test_passed_lists_are_neither_changed_nor_kept(self):
        heights = [3, -1, 0]
        cut = Cut(heights)
        self.assertEqual(heights, [3, -1, 0])
        heights[0] = 9
        heights.append(7)
        self.assertEqual(cut_answers(cut), [[3, -1, 0], [3, -1, 0]])

    def test_returned_lists_and_cuts_are_new(self):
        cut = Cut([3, -1, 0])
        self.same_after_spoiling(lambda: cut_answers(cut))
        self.same_after_spoiling(lambda: cut_answers(cut | cut) + cut_answers(cut & cut))


if __name__ == "__main__":
    unittest.main()
