"""Points 25 and 26: closed cuts and books."""

import itertools
import random
import unittest

from helpers import Case, frozen, random_records, record_answers
from surerails.books import book_of, books_together, closure_of, is_closed
from surerails.cuts import Cut
from surerails.lines import Line
from surerails.records import Record
from surerails.workings import Working

LINE = Line(3, [(0, 1, 1, 2), (1, 0, 1, 3), (1, 2, 1, None)])
WORKING = Working(LINE, [("free", 0), ("ride", 1, 0, 2, 4), ("act", 1, [(0, 1)]), ("ride", 1, 1, 1, None)])
# 0 at 2 -> (ride) 1 at 4; 0 at 1 -> (letter) 1 at 3; 1 at 3 -> (letter) 2 at 0; 1 at 4 -> (ride) 1 at 5.
RECORD = Record(
    WORKING, [4, 5, 3], seen=[(0, 2), (1, 4), (2, 0), (3, 5)],
    letters=[(0, 1, 1, 3), (1, 2, 3, 0), (1, 2, 0, 2), (1, 0, 5, 4)],
)


def keeps(record, cut):
    """Point 25 to the letter."""
    for source, target, sent, come in record.letters():
        if come <= cut[target] and sent > cut[source]:
            return False
    for event, reading in record.seen():
        link = record.working.cause(event)
        if link is not None and reading <= cut[record.working.box_of(event)]:
            if record.reading(link[0]) > cut[record.working.box_of(link[0])]:
                return False
    return True


def all_closed_cuts(record):
    ranges = [range(-1, height + 1) for height in record.heights()]
    return [list(cut) for cut in itertools.product(*ranges) if keeps(record, cut)]


def least_closed(record, heights):
    """The least of all closed cuts above the heights."""
    above = [cut for cut in all_closed_cuts(record) if all(low <= high for low, high in zip(heights, cut))]
    least = [min(column) for column in zip(*above)]
    assert least in above
    return least


class TestClosedCuts(Case):

    def test_closed_by_its_letters(self):
        self.assertIs(is_closed(RECORD, Cut([1, 3, -1])), True)
        self.assertIs(is_closed(RECORD, Cut([0, 3, -1])), False)
        self.assertIs(is_closed(RECORD, Cut([0, 2, -1])), True)
        self.assertIs(is_closed(RECORD, Cut([1, 3, 0])), True)
        self.assertIs(is_closed(RECORD, Cut([1, 2, 0])), False)

    def test_closed_by_its_rides(self):
        self.assertIs(is_closed(RECORD, Cut([2, 4, -1])), True)
        self.assertIs(is_closed(RECORD, Cut([1, 4, -1])), False)
        self.assertIs(is_closed(RECORD, Cut([2, 5, -1])), True)

    def test_an_act_needs_no_demanded_event(self):
        self.assertIs(is_closed(RECORD, Cut([-1, 2, -1])), True)

    def test_the_whole_and_the_empty_cut(self):
        self.assertIs(is_closed(RECORD, Cut([-1, -1, -1])), True)
        self.assertIs(is_closed(record=RECORD, cut=Cut([4, 5, 3])), True)

    def test_closures(self):
        self.assertEqual(list(closure_of(RECORD, Cut([-1, -1, 0]))), [1, 3, 0])
        self.assertEqual(list(closure_of(RECORD, Cut([-1, 3, 1]))), [1, 3, 1])
        self.assertEqual(list(closure_of(RECORD, Cut([4, -1, -1]))), [4, 5, -1])
        self.assertEqual(list(closure_of(RECORD, Cut([3, 2, -1]))), [3, 2, -1])
        self.assertEqual(list(closure_of(record=RECORD, cut=Cut([-1, -1, -1]))), [-1, -1, -1])
        self.assertIsInstance(closure_of(RECORD, Cut([3, 2, -1])), Cut)

    def test_bad_cuts(self):
        for call in (is_closed, closure_of):
            self.refuses("BadCut", (0,), lambda: call(RECORD, Cut([])))
            self.refuses("BadCut", (2,), lambda: call(RECORD, Cut([4, 5])))
            self.refuses("BadCut", (1,), lambda: call(RECORD, Cut([4, 6, 4])))
            self.refuses("BadCut", (0,), lambda: call(RECORD, Cut([-2, 6, 4])))
            self.refuses("BadCut", (2,), lambda: call(RECORD, Cut([-1, -1, -2])))
            self.refuses("BadCut", (3,), lambda: call(RECORD, Cut([4, 5, 3, -1])))
            self.refuses("BadCut", (1,), lambda: call(RECORD, Cut([4, 6, 3, -1])))

    def test_against_all_cuts(self):
        chance = random.Random(26)
        for record in random_records(chance, 80):
            closed = all_closed_cuts(record)
            for heights in itertools.product(*[range(-1, min(height, 3) + 1) for height in record.heights()]):
                self.assertEqual(is_closed(record, Cut(list(heights))), list(heights) in closed)
            heights = [chance.randint(-1, height) for height in record.heights()]
            self.assertEqual(list(closure_of(record, Cut(heights))), least_closed(record, heights))

    def test_closed_cuts_join_and_meet(self):
        cuts = [Cut(heights) for heights in all_closed_cuts(RECORD)]
        for first, second in itertools.product(cuts, repeat=2):
            self.assertTrue(is_closed(RECORD, first | second) and is_closed(RECORD, first & second))


class TestBooks(Case):

    def test_books(self):
        self.assertEqual(list(book_of(RECORD, 0, 0)), [0, -1, -1])
        self.assertEqual(list(book_of(RECORD, 0, 4)), [4, 5, -1])
        self.assertEqual(list(book_of(RECORD, 1, 2)), [-1, 2, -1])
        self.assertEqual(list(book_of(RECORD, 1, 3)), [1, 3, -1])
        self.assertEqual(list(book_of(RECORD, 1, 4)), [2, 4, -1])
        self.assertEqual(list(book_of(record=RECORD, box=2, reading=0)), [1, 3, 0])
        self.assertIsInstance(book_of(RECORD, 2, 0), Cut)

    def test_a_book_goes_no_further_than_its_letters(self):
        self.assertNotIn((1, 4), book_of(RECORD, 2, 3))
        self.assertIn((1, 3), book_of(RECORD, 2, 3))

    def test_a_book_may_hold_more_of_its_own_box(self):
        record = Record(WORKING, [4, 4, -1], letters=[(0, 1, 3, 1), (1, 0, 1, 0)])
        self.assertEqual(list(book_of(record, 0, 0)), [3, 1, -1])

    def test_no_moment(self):
        for box in (-1, 3):
            self.refuses("NoBox", (box,), lambda: book_of(RECORD, box, 99))
        for box, height in enumerate(RECORD.heights()):
            for reading in (-1, height + 1):
                self.refuses("BadReading", (box, reading), lambda: book_of(RECORD, box, reading))
            self.assertIn((box, height), book_of(RECORD, box, height))
        self.refuses("BadReading", (2, 0), lambda: book_of(Record(WORKING, [0, 0, -1]), 2, 0))
        self.refuses("BadReading", (2, -1), lambda: book_of(Record(WORKING, [0, 0, -1]), 2, -1))

    def test_books_together(self):
        self.assertEqual(list(books_together(RECORD, [])), [-1, -1, -1])
        self.assertEqual(list(books_together(RECORD, [(1, 4), (2, 0)])), [2, 4, 0])
        self.assertEqual(list(books_together(RECORD, [(1, 4), (1, 2), (1, 4)])), [2, 4, -1])
        self.assertEqual(list(books_together(record=RECORD, moments=[(0, 4)])), [4, 5, -1])
        self.assertIsInstance(books_together(RECORD, []), Cut)

    def test_books_together_are_checked_entry_by_entry(self):
        self.refuses("BadReading", (0, 5), lambda: books_together(RECORD, [(0, 5), (3, 0)]))
        self.refuses("NoBox", (3,), lambda: books_together(RECORD, [(0, 4), (3, 99), (0, 5)]))
        self.refuses("BadReading", (1, -1), lambda: books_together(RECORD, [(1, 0), (1, -1)]))
        self.refuses("NoBox", (-1,), lambda: books_together(RECORD, [(-1, 0)]))

    def test_against_all_cuts(self):
        chance = random.Random(27)
        for record in random_records(chance, 80):
            moments = [(box, reading) for box, height in enumerate(record.heights()) for reading in range(height + 1)]
            for box, reading in chance.sample(moments, min(4, len(moments))):
                heights = [reading if other == box else -1 for other in range(record.line.size)]
                self.assertEqual(list(book_of(record, box, reading)), least_closed(record, heights))
            chosen = chance.choices(moments, k=3) if moments else []
            joined = Cut([-1] * record.line.size)
            for box, reading in chosen:
                joined = joined | book_of(record, box, reading)
            self.assertEqual(books_together(record, chosen), joined)

    def test_a_closed_cut_is_the_books_of_its_last_moments(self):
        for heights in all_closed_cuts(RECORD):
            last = [(box, height) for box, height in enumerate(heights) if height >= 0]
            self.assertEqual(list(books_together(RECORD, last)), heights)


class TestCopies(Case):

    def test_nothing_is_changed(self):
        before = frozen(record_answers(RECORD))
        cut, moments = Cut([-1, -1, 0]), [(1, 4), (2, 0)]
        is_closed(RECORD, cut)
        closure_of(RECORD, cut)
        books_together(RECORD, moments)
        book_of(RECORD, 2, 0)
        self.assertEqual((list(cut), moments), ([-1, -1, 0], [(1, 4), (2, 0)]))
        self.assertEqual(frozen(record_answers(RECORD)), before)

    def test_an_answer_does_not_change_with_what_was_passed(self):
        moments = [(1, 4)]
        book = books_together(RECORD, moments)
        moments[0] = (2, 0)
        self.assertEqual(list(book), [2, 4, -1])


if __name__ == "__main__":
    unittest.main()
