"""Point 44: what a box knows before it acts."""

import random
import unittest

from helpers import Case, frozen, possible_records, random_records, record_answers
from surerails.books import book_of
from surerails.eves import eve_of
from surerails.knowing import sure_age
from surerails.lines import Line
from surerails.records import Record
from surerails.workings import Working

LINE = Line(2, [(0, 1, 1, 2), (1, 0, 1, 3)])
WORKING = Working(LINE, [
    ("free", 0), ("act", 0, [(0, 1)]), ("ride", 0, 1, 1, 9), ("ride", 1, 2, 2, 9), ("act", 1, []), ("ride", 0, 0, 1, 5),
    ("act", 0, []),
])
RECORD = Record(
    WORKING, [6, 5], seen=[(0, 1), (1, 2), (2, 3), (3, 5), (4, 2), (5, 4), (6, 2)],
    letters=[(0, 1, 0, 1), (0, 1, 2, 3), (1, 0, 1, 2), (1, 0, 2, 4)],
)


def moments_of(record):
    return [(box, reading) for box, height in enumerate(record.heights()) for reading in range(height + 1)]


def undone_by_hand(record, box, reading):
    """Whether each event is an act of the moment, or a ride that follows from one, directly or through others."""
    working = record.working
    undone = []
    for event in range(working.size):
        first = event
        while working.cause(first) is not None:
            first = working.cause(first)[0]
        acts = working.kind(first) == "act" and working.box_of(first) == box
        undone.append(acts and record.reading(first) == reading)
    return undone


class TestEves(Case):

    def check(self, record, box, reading):
        """Point 44 to the letter."""
        book = book_of(record, box, reading)
        undone = undone_by_hand(record, box, reading)
        eve = eve_of(record, box, reading)
        self.assertEqual(eve.heights(), list(book))
        self.assertEqual(eve.seen(), [
            (event, at) for event, at in record.seen()
            if (record.working.box_of(event), at) in book and not undone[event]
        ])
        self.assertEqual(eve.letters(), [
            letter for letter in record.letters() if (letter[1], letter[3]) in book])
        self.assertEqual(eve.working.events(), record.working.events())
        return eve

    def test_the_book_without_the_acts_of_the_moment(self):
        eve = self.check(RECORD, 0, 2)
        self.assertIsInstance(eve, Record)
        self.assertEqual(eve.heights(), [2, 1])
        self.assertEqual(eve.seen(), [(0, 1)])
        self.assertEqual(eve.letters(), [(0, 1, 0, 1), (1, 0, 1, 2)])

    def test_acts_before_the_moment_and_of_other_boxes_stay(self):
        eve = eve_of(record=RECORD, box=0, reading=4)
        self.assertEqual(eve.seen(), [(0, 1), (1, 2), (2, 3), (4, 2), (5, 4), (6, 2)])
        self.assertEqual(eve_of(RECORD, 1, 3).seen(), [(0, 1), (1, 2), (4, 2), (6, 2)])

    def test_free_events_and_rides_of_the_moment_stay(self):
        self.assertEqual(eve_of(RECORD, 0, 1).seen(), [(0, 1)])
        self.assertEqual(eve_of(RECORD, 0, 3).seen(), [(0, 1), (1, 2), (2, 3), (6, 2)])

    def test_acts_of_another_box_at_the_same_reading_stay(self):
        self.assertEqual(eve_of(RECORD, 1, 2).seen(), [])
        record = Record(WORKING, [2, 3], seen=[(4, 2), (6, 2)], letters=[(1, 0, 2, 2)])
        self.assertEqual(eve_of(record, 0, 2).seen(), [(4, 2)])

    def test_a_moment_at_which_nothing_happens(self):
        self.assertEqual(eve_of(RECORD, 0, 0).seen(), [])
        self.assertEqual(eve_of(RECORD, 0, 0).heights(), [0, -1])

    def test_rides_that_follow_at_the_very_moment_or_before_it(self):
        # No run has this record.
        record = Record(WORKING, [6, 5], seen=[(0, 1), (1, 4), (2, 4), (3, 0), (5, 4), (6, 3)], letters=[(1, 0, 0, 1)])
        eve = self.check(record, 0, 4)
        self.assertEqual(eve.seen(), [(0, 1), (5, 4), (6, 3)])
        self.assertEqual(eve.heights(), [4, 0])
        self.assertEqual(self.check(record, 0, 1).heights(), [4, 0])
        self.assertEqual(eve_of(record, 0, 1).seen(), [(0, 1), (1, 4), (2, 4), (3, 0), (5, 4), (6, 3)])

    def test_at_random(self):
        chance = random.Random(90)
        without = 0
        for record in random_records(chance, 150, boxes=4):
            for box, reading in chance.sample(moments_of(record), min(6, len(moments_of(record)))):
                self.check(record, box, reading)
            for event, reading in record.seen():
                without += record.working.kind(event) == "act"
                self.check(record, record.working.box_of(event), reading)
        self.assertGreater(without, 30)

    def test_what_is_sure_in_an_eve_is_sure_in_all_later_eves_of_the_box(self):
        chance = random.Random(91)
        found = 0
        for record in possible_records(chance, 120):
            for box, height in enumerate(record.heights()):
                for event in range(record.working.size):
                    ages = [sure_age(eve_of(record, box, at), box, at, event) for at in range(height + 1)]
                    for at, age in enumerate(ages):
                        if age is not None:
                            found += 1
                            for later in range(at, height + 1):
                                self.assertGreaterEqual(ages[later], age + later - at)
        self.assertGreater(found, 200)

    def test_no_moment(self):
        for box in (-1, 2):
            self.refuses("NoBox", (box,), lambda: eve_of(RECORD, box, 99))
        for box, height in enumerate(RECORD.heights()):
            for reading in (-1, height + 1):
                self.refuses("BadReading", (box, reading), lambda: eve_of(RECORD, box, reading))
        self.refuses("BadReading", (1, 0), lambda: eve_of(Record(WORKING, [0, -1]), 1, 0))
        self.refuses("BadReading", (1, -1), lambda: eve_of(Record(WORKING, [0, -1]), 1, -1))


class TestCopies(Case):

    def test_nothing_is_changed_and_every_list_is_new(self):
        before = frozen(record_answers(RECORD))
        self.same_after_spoiling(lambda: record_answers(eve_of(RECORD, 0, 4)))
        eve = eve_of(RECORD, 0, 4)
        self.same_after_spoiling(lambda: record_answers(eve))
        self.assertEqual(frozen(record_answers(RECORD)), before)


if __name__ == "__main__":
    unittest.main()
