"""Points 27 and 28: trails, and when something is heard of."""

import random
import unittest

from helpers import Case, frozen, random_records, record_answers
from surerails.books import book_of
from surerails.hearing import heard_at, is_trail, letter_news, trail_of
from surerails.lines import Line
from surerails.records import Record
from surerails.workings import Working

LINE = Line(3, [(0, 1, 1, 2), (1, 0, 1, 3), (1, 2, 1, None), (0, 2, 1, 9)])
WORKING = Working(LINE, [("free", 0), ("ride", 1, 0, 2, 4), ("act", 1, [(0, 1)]), ("ride", 1, 1, 1, None)])
RECORD = Record(
    WORKING, [4, 6, 5], seen=[(0, 2), (1, 4), (2, 0), (3, 6)],
    letters=[(0, 1, 1, 3), (1, 2, 3, 0), (1, 2, 4, 3), (1, 0, 5, 4), (0, 2, 3, 5)],
)
BARE = Record(WORKING, [2, 2, -1])


def moments_of(record):
    return [(box, reading) for box, height in enumerate(record.heights()) for reading in range(height + 1)]


def steps_of(record):
    """Each hop with its two moments, as point 27 tells."""
    steps = {}
    for source, target, sent, come in record.letters():
        steps["letter", source, target, sent, come] = ((source, sent), (target, come))
    for event, reading in record.seen():
        link = record.working.cause(event)
        if link is not None:
            cause = link[0]
            steps["ride", event] = (
                (record.working.box_of(cause), record.reading(cause)), (record.working.box_of(event), reading))
    return steps


def fewest_hops(record, first):
    """The fewest hops to each moment: waiting for the next reading costs nothing, a hop costs one."""
    fewest = {first: 0}
    edges = [((box, reading), (box, reading + 1), 0) for box, reading in moments_of(record)]
    edges += [(left, reached, 1) for left, reached in steps_of(record).values()]
    for _ in range(len(moments_of(record)) + 1):
        for left, reached, cost in edges:
            if left in fewest and fewest[left] + cost < fewest.get(reached, 10 ** 6):
                fewest[reached] = fewest[left] + cost
    return fewest


class TestTrails(Case):

    def check(self, record, first, second, fewest):
        trail = trail_of(record, first, second)
        if fewest is None:
            self.assertIsNone(trail)
        else:
            self.assertEqual(len(trail), fewest)
            self.assertIs(self.by_hand(record, first, second, trail), True)
            self.assertIs(is_trail(record, first, second, trail), True)

    def by_hand(self, record, first, second, hops):
        """Point 27 to the letter."""
        steps = steps_of(record)
        at = first
        for hop in hops:
            if hop not in steps or steps[hop][0][0] != at[0] or steps[hop][0][1] < at[1]:
                return False
            at = steps[hop][1]
        return at[0] == second[0] and at[1] <= second[1]

    def test_the_empty_trail(self):
        self.assertEqual(trail_of(RECORD, (1, 2), (1, 2)), [])
        self.assertEqual(trail_of(RECORD, (1, 2), (1, 6)), [])
        self.assertIsNone(trail_of(BARE, (1, 2), (1, 1)))
        self.assertIsNone(trail_of(RECORD, (1, 5), (2, 5)))

    def test_one_letter(self):
        self.assertEqual(trail_of(RECORD, (0, 1), (1, 3)), [("letter", 0, 1, 1, 3)])
        self.assertEqual(trail_of(RECORD, (0, 0), (1, 3)), [("letter", 0, 1, 1, 3)])
        self.assertIsNone(trail_of(RECORD, (0, 1), (1, 2)))

    def test_one_ride(self):
        self.assertEqual(trail_of(RECORD, (0, 2), (1, 4)), [("ride", 1)])
        self.assertIsNone(trail_of(RECORD, (0, 2), (1, 3)))
        self.assertIsNone(trail_of(RECORD, (0, 3), (1, 6)))

    def test_several_hops(self):
        self.assertEqual(trail_of(RECORD, (0, 1), (2, 0)), [("letter", 0, 1, 1, 3), ("letter", 1, 2, 3, 0)])
        self.assertEqual(trail_of(RECORD, (0, 2), (2, 4)), [("ride", 1), ("letter", 1, 2, 4, 3)])

    def test_as_few_hops_as_possible_though_more_come_earlier(self):
        self.assertEqual(trail_of(RECORD, (0, 1), (2, 5)), [("letter", 0, 2, 3, 5)])
        self.assertEqual(len(trail_of(RECORD, (0, 1), (2, 4))), 2)

    def test_a_trail_back_to_an_earlier_reading_of_the_same_box(self):
        record = Record(WORKING, [4, 4, -1], letters=[(0, 1, 3, 1), (1, 0, 1, 0)])
        expected = [("letter", 0, 1, 3, 1), ("letter", 1, 0, 1, 0)]
        self.assertEqual(trail_of(record, (0, 2), (0, 1)), expected)
        self.assertEqual(trail_of(record=record, first=(0, 2), second=(0, 2)), [])
        self.assertIs(is_trail(record, (0, 2), (0, 1), expected), True)

    def test_against_all_moments(self):
        chance = random.Random(28)
        for record in random_records(chance, 60, boxes=4):
            for first in chance.sample(moments_of(record), min(5, len(moments_of(record)))):
                fewest = fewest_hops(record, first)
                for second in moments_of(record):
                    self.check(record, first, second, fewest.get(second))
                    self.assertEqual(first in book_of(record, *second), second in fewest)

    def test_what_is_a_trail(self):
        first, second = ("letter", 0, 1, 1, 3), ("letter", 1, 2, 3, 0)
        self.assertIs(is_trail(RECORD, (0, 1), (2, 0), [first, second]), True)
        self.assertIs(is_trail(RECORD, (0, 0), (2, 5), [first, second]), True)
        self.assertIs(is_trail(RECORD, (0, 1), (2, 3), [first, ("letter", 1, 2, 4, 3)]), True)
        self.assertIs(is_trail(RECORD, (0, 1), (1, 6), [("ride", 1), ("ride", 3)]), True)
        self.assertIs(is_trail(record=RECORD, first=(1, 2), second=(1, 2), hops=[]), True)
        self.assertIs(is_trail(RECORD, (1, 2), (1, 3), []), True)

    def test_what_is_no_trail(self):
        first, second = ("letter", 0, 1, 1, 3), ("letter", 1, 2, 3, 0)
        for begin, end, hops in [
            ((1, 3), (1, 2), []), ((1, 3), (2, 3), []), ((0, 2), (2, 0), [first, second]),
            ((0, 1), (2, 0), [second, first]), ((0, 1), (2, 0), [second]), ((0, 1), (2, 0), [first]),
            ((0, 1), (1, 2), [first]), ((0, 1), (2, 5), [("ride", 1), second]), ((0, 3), (1, 6), [("ride", 1)]),
            ((0, 1), (2, 5), [first, second, first]), ((1, 0), (2, 5), [first, second]),
            ((0, 0), (1, 6), [("ride", 3)]),
        ]:
            self.assertIs(is_trail(RECORD, begin, end, hops), False, hops)

    def test_hops_that_the_record_does_not_have(self):
        for hop in [
            ("letter", 0, 1, 1, 4), ("letter", 0, 1, 0, 3), ("letter", 0, 2, 1, 3), ("letter", 7, 1, 1, 3),
            ("letter", 0, 7, 1, 3), ("letter", 0, 1, -1, 3), ("letter", 2, 1, 1, 3), ("ride", 0), ("ride", 2),
            ("ride", 4), ("ride", -1), ("ride", -3), ("ride", 1, 1), ("letter", 0, 1, 1), ("walk", 1), (),
        ]:
            self.assertIs(is_trail(RECORD, (0, 0), (1, 6), [hop]), False, hop)
        self.assertIs(is_trail(BARE, (0, 0), (1, 2), [("ride", 1)]), False)

    def test_random_lists_of_hops(self):
        chance = random.Random(29)
        found = 0
        for record in random_records(chance, 60, boxes=4):
            hops = list(steps_of(record)) + [("ride", 0)]
            for _ in range(60):
                row = [chance.choice(hops) for _ in range(chance.randint(0, 3))]
                if moments_of(record):
                    first, second = chance.choice(moments_of(record)), chance.choice(moments_of(record))
                    expected = self.by_hand(record, first, second, row)
                    found += expected
                    self.assertIs(is_trail(record, first, second, row), expected)
        self.assertGreater(found, 50)

    def test_the_errors_in_their_order(self):
        for call in (trail_of, lambda record, first, second: is_trail(record, first, second, [("walk",)])):
            for box in (-1, 3):
                self.refuses("NoBox", (box,), lambda: call(RECORD, (box, 0), (9, 9)))
                self.refuses("NoBox", (box,), lambda: call(RECORD, (0, 0), (box, 99)))
            for reading in (-1, 5):
                self.refuses("BadReading", (0, reading), lambda: call(RECORD, (0, reading), (9, 9)))
                self.refuses("BadReading", (0, reading), lambda: call(RECORD, (1, 0), (0, reading)))
            self.refuses("BadReading", (2, 0), lambda: call(BARE, (0, 0), (2, 0)))
            call(RECORD, (0, 4), (1, 6))


class TestHeardAt(Case):

    def test_by_letters_and_rides(self):
        self.assertEqual([heard_at(RECORD, (0, reading), 1) for reading in range(5)], [3, 3, 4, None, None])
        self.assertEqual([heard_at(RECORD, (0, reading), 2) for reading in range(5)], [0, 0, 3, 5, None])
        self.assertEqual(heard_at(record=RECORD, moment=(1, 6), box=0), None)
        self.assertEqual(heard_at(RECORD, (1, 5), 0), 4)

    def test_at_the_box_itself(self):
        self.assertEqual(heard_at(RECORD, (0, 3), 0), 3)
        self.assertEqual(heard_at(BARE, (1, 0), 1), 0)
        self.assertIsNone(heard_at(BARE, (0, 0), 2))

    def test_against_the_books(self):
        chance = random.Random(30)
        for record in random_records(chance, 60, boxes=4):
            for moment in chance.sample(moments_of(record), min(5, len(moments_of(record)))):
                for box, height in enumerate(record.heights()):
                    readings = [at for at in range(height + 1) if moment in book_of(record, box, at)]
                    self.assertEqual(heard_at(record, moment, box), min(readings, default=None))

    def test_the_errors_in_their_order(self):
        for box in (-1, 3):
            self.refuses("NoBox", (box,), lambda: heard_at(RECORD, (box, 9), 9))
            self.refuses("NoBox", (box,), lambda: heard_at(RECORD, (0, 4), box))
        for reading in (-1, 5):
            self.refuses("BadReading", (0, reading), lambda: heard_at(RECORD, (0, reading), 9))


class TestLetterNews(Case):

    def test_news(self):
        record = Record(WORKING, [4, 6, 5], seen=[(0, 2), (1, 4), (2, 1), (3, 6)], letters=[
            (0, 1, 3, 5), (1, 0, 5, 4), (1, 2, 4, 3), (1, 2, 6, 4), (1, 2, 5, 0), (0, 2, 0, 2),
        ])
        self.assertEqual(letter_news(record, 1, 2, 4), [])
        self.assertEqual(letter_news(record, 1, 2, 5), [0, 1, 2])
        self.assertEqual(letter_news(record, 1, 2, 6), [3])
        self.assertEqual(letter_news(record, 0, 1, 3), [])
        self.assertEqual(letter_news(record, 0, 2, 0), [])
        self.assertEqual(letter_news(record=record, source=1, target=0, sent=5), [1, 2])

    def test_a_letter_that_comes_at_0(self):
        self.assertEqual(letter_news(RECORD, 1, 2, 3), [2])
        record = Record(WORKING, [2, 0, 0], seen=[(0, 2), (2, 0)], letters=[(0, 1, 2, 0)])
        self.assertEqual(letter_news(record, 0, 1, 2), [0])

    def test_what_comes_at_the_same_reading_counts_as_news(self):
        record = Record(WORKING, [3, 3, -1], seen=[(0, 1)], letters=[(0, 1, 1, 2), (0, 1, 2, 2), (0, 1, 3, 3)])
        self.assertEqual([letter_news(record, 0, 1, sent) for sent in (1, 2, 3)], [[0], [0], []])

    def test_an_event_at_the_very_reading_of_the_letter_is_told(self):
        record = Record(WORKING, [3, 3, -1], seen=[(0, 1), (2, 3)], letters=[(0, 1, 1, 2), (0, 1, 0, 3)])
        self.assertEqual([letter_news(record, 0, 1, sent) for sent in (0, 1)], [[], [0]])

    def test_against_the_books(self):
        chance = random.Random(31)
        fresh = 0
        for record in random_records(chance, 150, boxes=4):
            for source, target, sent, come in record.letters():
                told = book_of(record, source, sent)
                known = book_of(record, target, come - 1) if come else ()
                expected = []
                for event, reading in record.seen():
                    moment = (record.working.box_of(event), reading)
                    if moment in told and moment not in known:
                        expected.append(event)
                fresh += len(expected)
                self.assertEqual(letter_news(record, source, target, sent), expected)
        self.assertGreater(fresh, 100)

    def test_the_errors_in_their_order(self):
        for box in (-1, 3):
            self.refuses("NoBox", (box,), lambda: letter_news(RECORD, box, 9, 0))
            self.refuses("NoBox", (box,), lambda: letter_news(RECORD, 0, box, 0))
        self.refuses("NoWire", (2, 1), lambda: letter_news(RECORD, 2, 1, 0))
        for sent in (-1, 0, 2, 5, 10 ** 9):
            self.refuses("NotCome", (0, 1, sent), lambda: letter_news(RECORD, 0, 1, sent))


class TestCopies(Case):

    def test_nothing_is_changed_and_every_list_is_new(self):
        before = frozen(record_answers(RECORD))
        hops = [("letter", 0, 1, 1, 3), ("letter", 1, 2, 3, 0)]
        self.assertTrue(is_trail(RECORD, (0, 1), (2, 0), hops))
        self.assertEqual(hops, [("letter", 0, 1, 1, 3), ("letter", 1, 2, 3, 0)])
        self.same_after_spoiling(lambda: [
            trail_of(RECORD, (0, 1), (2, 0)), trail_of(RECORD, (0, 1), (0, 1)), letter_news(RECORD, 1, 2, 3),
            heard_at(RECORD, (0, 1), 1),
        ])
        self.assertEqual(frozen(record_answers(RECORD)), before)


if __name__ == "__main__":
    unittest.main()
