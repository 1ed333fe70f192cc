"""Points 65 and 66: torn books, and when a box has its book back."""

import random
import unittest

from helpers import (
    Case, acts_of, frozen, impossible_records, possible_records, random_line, random_records, random_rule,
    random_working, random_worlds, record_answers,
)
from surerails.books import book_of, books_together
from surerails.cuts import Cut
from surerails.driving import drive
from surerails.eves import eve_of
from surerails.freest import Freest
from surerails.lags import round_trip
from surerails.latest import worst_world
from surerails.lines import Line
from surerails.records import Record
from surerails.tears import torn_book, whole_at
from surerails.workings import Working

LINE = Line(2, [(0, 1, 1, 2), (1, 0, 1, 3)])
WORKING = Working(LINE, [("free", 0), ("act", 0, [(0, 1)])])
# Each letter takes one hour; from 3 on those to the box 0 do not come any more.
LETTERS = [(0, 1, at, at + 1) for at in range(5)] + [(1, 0, at, at + 1) for at in range(3)]
RECORD = Record(WORKING, [5, 5], seen=[(0, 1)], letters=LETTERS)


def told_again(record, box, place, hour, now):
    """The cut W of the point."""
    moments = [] if place == -1 else [(box, place)]
    moments += [
        (source, sent) for source, target, sent, come in record.letters() if target == box and hour <= come <= now
    ]
    return books_together(record, moments)


def tears(record):
    """All boxes, places and hours of a record."""
    return [
        (box, place, hour)
        for box in range(record.line.size) for hour in range(record.height(box) + 1) for place in range(-1, hour)
    ]


class TestTornBook(Case):

    def check(self, record, box, place, hour, now):
        """Point 65 to the letter; tells whether the book is back."""
        cut = told_again(record, box, place, hour, now)
        whole = cut.height(box) >= hour - 1
        found = torn_book(record, box, place, hour, now)
        self.assertIsInstance(found, Cut)
        self.assertEqual(found, book_of(record, box, now) if whole else cut)
        return whole

    def heights(self, *question):
        self.check(RECORD, *question)
        return list(torn_book(RECORD, *question))

    def test_what_is_left_until_the_letters_tell_it_again(self):
        # The letter of 2 that came at 3 tells of the reading 1 of the box 0, which had told the box 1 of it at 2.
        self.assertEqual(self.heights(0, -1, 3, 3), [1, 2])
        self.assertEqual(self.heights(0, 0, 3, 3), [1, 2])
        self.assertEqual(self.heights(0, 1, 3, 3), [1, 2])
        self.assertEqual(self.heights(0, -1, 2, 2), [0, 1])
        self.assertEqual(self.heights(0, -1, 2, 3), [3, 2])
        self.assertEqual(self.heights(0, -1, 2, 5), [5, 2])
        self.assertEqual(self.heights(0, -1, 4, 5), [-1, -1])
        self.assertEqual(self.heights(0, 1, 4, 5), [1, 0])
        self.assertEqual(list(torn_book(record=RECORD, box=0, place=1, hour=4, now=5)), [1, 0])

    def test_a_tear_of_nothing(self):
        for hour in range(1, 6):
            for now in range(hour, 6):
                self.assertEqual(torn_book(RECORD, 0, hour - 1, hour, now), book_of(RECORD, 0, now))
            self.assertEqual(whole_at(RECORD, 0, hour - 1, hour), hour)

    def test_a_tear_at_the_reading_0(self):
        for box in (0, 1):
            self.assertEqual(torn_book(RECORD, box, -1, 0, 0), book_of(RECORD, box, 0))
            self.assertEqual(torn_book(RECORD, box, -1, 0, 5), book_of(RECORD, box, 5))
            self.assertEqual(whole_at(RECORD, box, -1, 0), 0)

    def test_a_tear_of_everything(self):
        silent = Record(WORKING, [5, 5], seen=[(0, 1)])
        for now in range(4, 6):
            self.assertEqual(list(torn_book(silent, 0, -1, 4, now)), [-1, -1])
        self.assertIsNone(whole_at(silent, 0, -1, 4))
        self.assertEqual(list(torn_book(silent, 0, 0, 4, 5)), [0, -1])

    def test_a_book_that_comes_back_exactly_at_the_height(self):
        letters = [(0, 1, 2, 4), (1, 0, 4, 6)]
        for height, expected in ((5, None), (6, 6), (9, 6)):
            record = Record(WORKING, [height, 9], letters=[row for row in letters if row[3] <= height])
            self.assertEqual(whole_at(record, 0, -1, 3), expected)
        self.assertEqual(whole_at(record=record, box=0, place=1, hour=3), 6)

    def test_letters_before_the_tear_are_lost(self):
        record = Record(WORKING, [9, 9], letters=[(0, 1, 3, 4), (1, 0, 4, 5), (1, 0, 5, 6)])
        self.assertEqual(whole_at(record, 0, -1, 4), 5)
        self.assertEqual(whole_at(record, 0, -1, 5), None)
        self.assertEqual(list(torn_book(record, 0, 4, 6, 9)), [4, 5])
        self.assertEqual(list(torn_book(record, 0, 4, 7, 9)), [4, -1])
        self.assertEqual(list(torn_book(record, 0, 5, 7, 9)), [5, 4])

    def test_letters_of_the_very_hours_count(self):
        record = Record(WORKING, [9, 9], letters=[(1, 0, 2, 4), (1, 0, 7, 8)])
        for hour, now, expected in ((4, 4, [-1, 2]), (5, 7, [-1, -1]), (5, 8, [-1, 7]), (3, 4, [-1, 2]), (4, 8, [-1, 7])):
            self.assertEqual(list(torn_book(record, 0, -1, hour, now)), expected)

    def test_rides_pull_their_cause_into_the_book(self):
        working = Working(LINE, [("free", 0), ("ride", 1, 0, 2, 9)])
        record = Record(working, [9, 9], seen=[(0, 3), (1, 6)], letters=[(1, 0, 6, 7)])
        self.assertEqual(list(torn_book(record, 0, 0, 5, 7)), [3, 6])
        self.assertEqual(whole_at(record, 0, 0, 4), 7)

    def test_at_random(self):
        chance = random.Random(270)
        counts = [0, 0]
        for record in random_records(chance, 200):
            for box, place, hour in tears(record):
                now = chance.randint(hour, record.height(box))
                counts[self.check(record, box, place, hour, now)] += 1
        self.assertGreater(min(counts), 200)

    def test_the_first_reading_at_which_it_is_back(self):
        chance = random.Random(271)
        counts = {"at once": 0, "later": 0, "never": 0}
        for record in random_records(chance, 200):
            for box, place, hour in tears(record):
                readings = [
                    now for now in range(hour, record.height(box) + 1)
                    if told_again(record, box, place, hour, now).height(box) >= hour - 1
                ]
                found = whole_at(record, box, place, hour)
                self.assertEqual(found, readings[0] if readings else None)
                counts["never" if found is None else "at once" if found == hour else "later"] += 1
        self.assertGreater(min(counts.values()), 30)


class TestErrors(Case):

    def test_the_torn_book(self):
        for box in (-1, 2):
            self.refuses("NoBox", (box,), lambda: torn_book(RECORD, box, 9, 3, -1))
        for now in (-1, 6):
            self.refuses("BadReading", (1, now), lambda: torn_book(RECORD, 1, -2, 3, now))
        for place, hour, now in ((-2, 3, 5), (3, 3, 5), (4, 3, 5), (-1, 4, 3), (-1, -1, 3), (-9, 9, 3), (0, 0, 0)):
            self.refuses("BadTear", (place, hour), lambda: torn_book(RECORD, 1, place, hour, now))

    def test_the_first_reading(self):
        for box in (-1, 2):
            self.refuses("NoBox", (box,), lambda: whole_at(RECORD, box, 9, -3))
        for hour in (-1, 6):
            self.refuses("BadReading", (1, hour), lambda: whole_at(RECORD, 1, -2, hour))
        for place, hour in ((-2, 3), (3, 3), (4, 3), (0, 0)):
            self.refuses("BadTear", (place, hour), lambda: whole_at(RECORD, 1, place, hour))
        empty = Record(WORKING, [-1, 3])
        self.refuses("BadReading", (0, 0), lambda: whole_at(empty, 0, -1, 0))
        self.refuses("BadReading", (0, 0), lambda: torn_book(empty, 0, -1, 0, 0))


class TestJoined(Case):

    def test_what_the_freest_rule_allows_by_a_torn_book_it_allows_in_the_eve(self):
        chance = random.Random(272)
        counts = [0, 0, 0]
        records = [drive(world, random_rule(chance, world.working, 1), 9) for world in random_worlds(chance, 60)]
        for record in records + list(possible_records(chance, 60)):
            for box, place, hour in chance.sample(tears(record), min(9, len(tears(record)))):
                now = chance.randint(hour, record.height(box))
                part = record.part(torn_book(record, box, place, hour, now))
                eve = eve_of(record, box, now)
                for act in acts_of(record.working):
                    if record.working.box_of(act) == box:
                        allowed = Freest().allows(eve, now, act)
                        torn = Freest().allows(part, now, act)
                        self.assertTrue(allowed or not torn)
                        counts[torn + allowed] += 1
        self.assertGreater(min(counts), 5)

    def test_the_book_is_back_after_a_round_trip(self):
        chance = random.Random(273)
        found = 0
        for record in possible_records(chance, 300):
            for box, place, hour in tears(record):
                trip = round_trip(record.line, box)
                if hour >= 1 and trip is not None and hour - 1 + trip[0] <= record.height(box):
                    found += 1
                    back = whole_at(record, box, place, hour)
                    self.assertIsNotNone(back)
                    self.assertLessEqual(back, hour - 1 + trip[0])
        self.assertGreater(found, 100)

    def test_in_the_worst_world_it_takes_exactly_so_long(self):
        chance = random.Random(274)
        found = 0
        for _ in range(80):
            line = random_line(chance, boxes=3, longest=2, tight=chance.random() < 0.7)
            working = random_working(chance, line, 5)
            record = drive(worst_world(working), Freest(), 14)
            for box, place, hour in tears(record):
                trip = round_trip(line, box)
                if place < hour - 1:
                    back = whole_at(record, box, place, hour)
                    if trip is None or hour - 1 + trip[0] > record.height(box):
                        self.assertIsNone(back)
                    else:
                        found += 1
                        self.assertEqual(back, hour - 1 + trip[0])
        self.assertGreater(found, 300)

    def test_records_that_are_not_possible_have_torn_books_too(self):
        chance = random.Random(275)
        for record in impossible_records(chance, 60):
            for box, place, hour in tears(record):
                self.assertEqual(whole_at(record, box, place, hour) == hour,
                                 told_again(record, box, place, hour, hour).height(box) >= hour - 1)


class TestCopies(Case):

    def test_nothing_is_changed_and_every_list_is_new(self):
        before = frozen(record_answers(RECORD))
        self.same_after_spoiling(lambda: [list(torn_book(RECORD, 0, 0, 3, now)) for now in range(3, 6)])
        self.same_after_spoiling(lambda: [whole_at(RECORD, 0, -1, hour) for hour in range(6)])
        self.assertEqual(frozen(record_answers(RECORD)), before)


if __name__ == "__main__":
    unittest.main()
