"""Points 20 to 23, and Record.part of point 25."""

import random
import unittest

from helpers import Case, frozen, line_answers, random_records, record_answers, spoil, working_answers
from surerails.books import closure_of, is_closed
from surerails.cuts import Cut
from surerails.lines import Line
from surerails.records import Record
from surerails.workings import Working

LINE = Line(3, [(0, 1, 1, 2), (1, 0, 1, 3), (1, 2, 1, None)])
WORKING = Working(LINE, [
    ("free", 0), ("ride", 1, 0, 2, 4), ("act", 0, [(1, 1)]), ("ride", 1, 1, 1, None), ("free", 2),
])
HEIGHTS = [6, 5, 2]
SEEN = [(3, 5), (0, 1), (1, 3), (2, 6)]
LETTERS = [(1, 0, 2, 5), (0, 1, 1, 2), (0, 1, 0, 3), (1, 2, 0, 0)]


def record():
    return Record(WORKING, HEIGHTS, seen=SEEN, letters=LETTERS)


def seeing(*seen):
    return Record(WORKING, HEIGHTS, seen=list(seen))


def hearing(*letters):
    return Record(WORKING, HEIGHTS, letters=list(letters))


class TestRecord(Case):

    def test_attributes(self):
        self.assertEqual(working_answers(record().working), working_answers(WORKING))
        self.assertEqual(line_answers(record().line), line_answers(LINE))

    def test_heights_seen_and_letters(self):
        self.assertEqual(record().heights(), [6, 5, 2])
        self.assertEqual(record().seen(), [(0, 1), (1, 3), (2, 6), (3, 5)])
        self.assertEqual(record().letters(), [(0, 1, 0, 3), (0, 1, 1, 2), (1, 0, 2, 5), (1, 2, 0, 0)])

    def test_tuples_may_be_passed(self):
        other = Record(working=WORKING, heights=HEIGHTS, seen=tuple(SEEN), letters=tuple(LETTERS))
        self.assertEqual(record_answers(other), record_answers(record()))

    def test_what_is_left_out(self):
        bare = Record(WORKING, [-1, 0, 3])
        self.assertEqual((bare.heights(), bare.seen(), bare.letters()), ([-1, 0, 3], [], []))
        self.assertRaises(TypeError, Record, WORKING, [1, 1, 1], [])

    def test_heights_one_by_one(self):
        self.assertEqual([record().height(box) for box in range(3)], HEIGHTS)
        for box in (-1, 3):
            self.refuses("NoBox", (box,), lambda: record().height(box))

    def test_readings_of_events(self):
        self.assertEqual([record().reading(event) for event in range(5)], [1, 3, 6, 5, None])
        for event in (-1, 5):
            self.refuses("NoEvent", (event,), lambda: record().reading(event))

    def test_when_letters_came(self):
        self.assertEqual([record().come(0, 1, sent) for sent in range(3)], [3, 2, None])
        self.assertEqual(record().come(1, 2, 0), 0)
        self.assertEqual(record().come(source=1, target=0, sent=2), 5)
        for sent in (-1, 7, 10 ** 9):
            self.assertIsNone(record().come(0, 1, sent))

    def test_the_first_missing_letter(self):
        self.assertEqual(record().first_missing(0, 1), 2)
        self.assertEqual(record().first_missing(1, 0), 0)
        self.assertEqual(record().first_missing(source=1, target=2), 1)

    def test_the_first_missing_letter_may_be_above_the_height(self):
        full = Record(WORKING, [1, 9, -1], letters=[(0, 1, 1, 2), (0, 1, 0, 2)])
        self.assertEqual(full.first_missing(0, 1), 2)
        self.assertEqual(full.first_missing(1, 2), 0)

    def test_come_and_first_missing_refuse_what_is_no_wire(self):
        calls = [lambda source, target: record().come(source, target, 99), record().first_missing]
        for call in calls:
            for box in (-1, 3):
                self.refuses("NoBox", (box,), lambda: call(box, 0))
                self.refuses("NoBox", (box,), lambda: call(0, box))
            self.refuses("NoBox", (5,), lambda: call(5, 4))
            self.refuses("NoWire", (2, 1), lambda: call(2, 1))
            self.refuses("NoWire", (0, 0), lambda: call(0, 0))

    def test_a_record_may_be_one_that_no_run_can_have(self):
        wild = Record(WORKING, [4, 4, 4], seen=[(0, 4), (1, 0)], letters=[(0, 1, 4, 0), (1, 2, 3, 3)])
        self.assertEqual((wild.seen(), wild.letters()), ([(0, 4), (1, 0)], [(0, 1, 4, 0), (1, 2, 3, 3)]))


class TestWrongRecord(Case):

    def test_heights(self):
        self.refuses("BadHeight", (0,), lambda: Record(WORKING, []))
        self.refuses("BadHeight", (2,), lambda: Record(WORKING, [0, 0]))
        self.refuses("BadHeight", (1,), lambda: Record(WORKING, [0, -2, 0]))
        self.refuses("BadHeight", (0,), lambda: Record(WORKING, [-2, -2]))
        self.refuses("BadHeight", (3,), lambda: Record(WORKING, [0, 0, 0, 0]))
        self.refuses("BadHeight", (3,), lambda: Record(WORKING, [0, 0, 0, -2, 0]))
        self.refuses("BadHeight", (1,), lambda: Record(WORKING, [0, -2, 0, 0]))
        self.refuses("BadHeight", (1,), lambda: Record(WORKING, [0, -2]))
        self.assertEqual(Record(WORKING, [-1, -1, -1]).heights(), [-1, -1, -1])

    def test_heights_come_first(self):
        self.refuses("BadHeight", (2,), lambda: Record(WORKING, [0, 0], seen=[(9, 0)], letters=[(9, 9, 0, 0)]))

    def test_seen_of_no_event(self):
        for event in (-1, 5):
            self.refuses("NoEvent", (event,), lambda: seeing((event, -1)))
            self.refuses("NoEvent", (event,), lambda: seeing((event, 0)))

    def test_seen_twice(self):
        self.refuses("SeenTwice", (0,), lambda: seeing((0, 1), (4, 1), (0, 2)))
        self.refuses("SeenTwice", (0,), lambda: seeing((0, 1), (0, 1)))
        self.refuses("SeenTwice", (0,), lambda: seeing((0, 1), (0, 99)))

    def test_readings_of_seen_events(self):
        for event, box in ((0, 0), (4, 2)):
            for reading in (-1, HEIGHTS[box] + 1, 10 ** 9):
                self.refuses("BadReading", (box, reading), lambda: seeing((event, reading)))
            for reading in (0, HEIGHTS[box]):
                self.assertEqual(seeing((event, reading)).reading(event), reading)

    def test_no_reading_at_a_height_of_minus_one(self):
        self.refuses("BadReading", (0, 0), lambda: Record(WORKING, [-1, 5, 5], seen=[(0, 0)]))
        self.refuses("BadReading", (0, -1), lambda: Record(WORKING, [-1, 5, 5], seen=[(0, -1)]))
        call = {"letters": [(0, 1, 0, 0)]}
        self.refuses("BadReading", (0, 0), lambda: Record(WORKING, [-1, 5, 5], **call))
        self.refuses("BadReading", (1, 0), lambda: Record(WORKING, [5, -1, 5], **call))

    def test_seen_is_checked_entry_by_entry(self):
        self.refuses("BadReading", (0, 7), lambda: seeing((0, 7), (9, 1)))
        self.refuses("NoEvent", (9,), lambda: seeing((9, 1), (0, 7)))
        self.refuses("SeenTwice", (0,), lambda: seeing((0, 1), (0, 2), (4, 9)))
        self.refuses("BadReading", (2, 9), lambda: seeing((0, 1), (4, 9), (0, 2)))

    def test_a_ride_whose_cause_is_not_seen(self):
        self.refuses("CauseMissing", (1,), lambda: seeing((1, 3)))
        self.refuses("CauseMissing", (3,), lambda: seeing((3, 3), (0, 1)))
        self.refuses("CauseMissing", (1,), lambda: seeing((3, 3), (1, 3), (2, 0)))
        self.assertEqual(seeing((1, 3), (0, 1)).seen(), [(0, 1), (1, 3)])

    def test_the_least_ride_whose_cause_is_not_seen(self):
        working = Working(LINE, [("free", 0), ("ride", 0, 0, 1, 1), ("free", 0), ("ride", 0, 2, 1, 1)])
        for seen in ([(3, 5), (1, 5)], [(1, 5), (3, 5)]):
            self.refuses("CauseMissing", (1,), lambda: Record(working, HEIGHTS, seen=seen))
        self.refuses("CauseMissing", (3,), lambda: Record(working, HEIGHTS, seen=[(3, 5), (1, 5), (0, 4)]))

    def test_an_act_needs_no_demanded_event(self):
        self.assertEqual(seeing((2, 0)).seen(), [(2, 0)])

    def test_all_entries_come_before_a_missing_cause_and_that_before_letters(self):
        self.refuses("NoEvent", (9,), lambda: seeing((1, 3), (9, 0)))
        self.refuses("SeenTwice", (4,), lambda: seeing((1, 3), (4, 0), (4, 0)))
        self.refuses("CauseMissing", (1,), lambda: Record(WORKING, HEIGHTS, seen=[(1, 3)], letters=[(9, 9, 0, 0)]))
        self.refuses("NoEvent", (9,), lambda: Record(WORKING, HEIGHTS, seen=[(9, 3)], letters=[(9, 9, 0, 0)]))

    def test_letters_of_no_wire(self):
        for box in (-1, 3):
            self.refuses("NoBox", (box,), lambda: hearing((box, 1, 99, 99)))
            self.refuses("NoBox", (box,), lambda: hearing((0, box, 99, 99)))
        self.refuses("NoBox", (7,), lambda: hearing((7, 8, 0, 0)))
        self.refuses("NoWire", (2, 1), lambda: hearing((2, 1, 99, 99)))
        self.refuses("NoWire", (0, 0), lambda: hearing((0, 0, 0, 0)))

    def test_readings_of_letters(self):
        for sent in (-1, 7):
            self.refuses("BadReading", (0, sent), lambda: hearing((0, 1, sent, 3)))
            self.refuses("BadReading", (0, sent), lambda: hearing((0, 1, sent, 99)))
        for come in (-1, 6):
            self.refuses("BadReading", (1, come), lambda: hearing((0, 1, 3, come)))
        for sent in (0, 6):
            for come in (0, 5):
                self.assertEqual(hearing((0, 1, sent, come)).come(0, 1, sent), come)

    def test_a_letter_twice(self):
        self.refuses("CameTwice", (0, 1, 2), lambda: hearing((0, 1, 2, 3), (1, 0, 2, 3), (0, 1, 2, 4)))
        self.refuses("CameTwice", (0, 1, 2), lambda: hearing((0, 1, 2, 3), (0, 1, 2, 3)))
        self.refuses("BadReading", (1, 6), lambda: hearing((0, 1, 2, 3), (0, 1, 2, 6)))

    def test_letters_are_checked_entry_by_entry(self):
        self.refuses("CameTwice", (0, 1, 2), lambda: hearing((0, 1, 2, 3), (0, 1, 2, 3), (9, 1, 0, 0)))
        self.refuses("NoBox", (9,), lambda: hearing((0, 1, 2, 3), (9, 1, 0, 0), (0, 1, 2, 3)))
        self.refuses("NoWire", (2, 0), lambda: hearing((2, 0, 0, 0), (0, 1, 9, 9)))
        self.refuses("BadReading", (0, 9), lambda: hearing((0, 1, 9, 9), (2, 0, 0, 0)))


class TestPart(Case):

    def test_the_part_of_a_closed_cut(self):
        part = record().part(Cut([1, 3, -1]))
        self.assertEqual(part.heights(), [1, 3, -1])
        self.assertEqual(part.seen(), [(0, 1), (1, 3)])
        self.assertEqual(part.letters(), [(0, 1, 0, 3), (0, 1, 1, 2)])
        self.assertEqual(working_answers(part.working), working_answers(WORKING))

    def test_the_edges_of_a_part(self):
        self.assertEqual(record().part(Cut([1, 2, -1])).letters(), [(0, 1, 1, 2)])
        self.assertEqual(record().part(Cut([1, 2, -1])).seen(), [(0, 1)])
        self.assertEqual(record().part(Cut([0, 1, 2])).letters(), [(1, 2, 0, 0)])

    def test_the_whole_and_the_empty_part(self):
        self.assertEqual(record_answers(record().part(Cut(HEIGHTS))), record_answers(record()))
        self.assertEqual(record_answers(record().part(Cut([-1, -1, -1]))), record_answers(Record(WORKING, [-1] * 3)))
        self.assertEqual(record().part(cut=Cut([0, -1, -1])).heights(), [0, -1, -1])

    def test_bad_cuts(self):
        self.refuses("BadCut", (0,), lambda: record().part(Cut([])))
        self.refuses("BadCut", (2,), lambda: record().part(Cut([6, 5])))
        self.refuses("BadCut", (1,), lambda: record().part(Cut([6, 6, 3])))
        self.refuses("BadCut", (1,), lambda: record().part(Cut([6, -2, 3])))
        self.refuses("BadCut", (3,), lambda: record().part(Cut([6, 5, 2, 0])))
        self.refuses("BadCut", (2,), lambda: record().part(Cut([-1, 5, 3])))

    def test_cuts_that_are_not_closed(self):
        self.refuses("NotClosed", (0,), lambda: record().part(Cut([0, 2, -1])))
        self.refuses("NotClosed", (1,), lambda: record().part(Cut([6, 1, -1])))
        self.refuses("NotClosed", (1,), lambda: record().part(Cut([6, -1, 0])))
        self.refuses("NotClosed", (0,), lambda: record().part(Cut([-1, 3, 2])))
        self.refuses("NotClosed", (0,), lambda: record().part(Cut([-1, 5, 2])))

    def test_random_parts(self):
        chance = random.Random(25)
        parts = 0
        for whole in random_records(chance, 200, boxes=4):
            working = whole.working
            cut = Cut([chance.randint(-1, height) for height in whole.heights()])
            greater = [box for box in range(working.line.size) if closure_of(whole, cut).height(box) > cut.height(box)]
            if greater:
                self.refuses("NotClosed", (greater[0],), lambda: whole.part(cut))
                self.assertFalse(is_closed(whole, cut))
                cut = closure_of(whole, cut)
            parts += 1
            part = whole.part(cut)
            self.assertEqual(part.heights(), list(cut))
            self.assertEqual(part.seen(), [row for row in whole.seen() if (working.box_of(row[0]), row[1]) in cut])
            self.assertEqual(part.letters(), [row for row in whole.letters() if (row[1], row[3]) in cut])
        self.assertGreater(parts, 100)


class TestCopies(Case):

    def test_passed_lists_are_neither_changed_nor_kept(self):
        given = [list(HEIGHTS), list(SEEN), list(LETTERS)]
        made = Record(WORKING, given[0], seen=given[1], letters=given[2])
        self.assertEqual(given, [HEIGHTS, SEEN, LETTERS])
        before = frozen(record_answers(made))
        spoil(given)
        self.assertEqual(frozen(record_answers(made)), before)

    def test_returned_lists_are_new(self):
        made = record()
        self.same_after_spoiling(lambda: record_answers(made))

    def test_a_part_changes_nothing(self):
        made, cut = record(), Cut([1, 3, -1])
        before = frozen(record_answers(made))
        self.same_after_spoiling(lambda: record_answers(made.part(cut)))
        self.refuses("NotClosed", (0,), lambda: made.part(Cut([0, 2, -1])))
        self.assertEqual((frozen(record_answers(made)), list(cut)), (before, [1, 3, -1]))


if __name__ == "__main__":
    unittest.main()
