"""Points 40 and 41: the continuation of a record, and other runs."""

import random
import unittest

from helpers import (
    Case, frozen, impossible_records, keeps_all, least_bounds, possible_records, random_records, record_answers,
    small_placings,
)
from surerails.continuing import continuation, is_other_run
from surerails.lines import Line
from surerails.records import Record
from surerails.workings import Working, bounded_chain

LINE = Line(2, [(0, 1, 1, 2), (1, 0, 1, 3)])
WORKING = Working(LINE, [
    ("free", 0), ("ride", 1, 0, 2, 4), ("act", 0, [(1, 1)]), ("ride", 0, 1, 3, 5), ("ride", 0, 3, 1, None),
    ("ride", 0, 4, 1, 1), ("free", 1),
])
EXAMPLE = Record(WORKING, [1, -1], seen=[(0, 1)])
SILENT = Record(WORKING, [9, 9], seen=[(0, 1)])


def hours_by_hand(record, settings):
    """Point 40 to the letter."""
    rows = []
    for event in range(record.working.size):
        hours = None
        for ancestor, high in reversed(bounded_chain(record.working, event)):
            if record.reading(ancestor) is not None:
                hours = settings[record.working.box_of(ancestor)] + record.reading(ancestor) + high
        rows.append(hours)
    return rows


def run_by(record, settings, hours, end):
    """The record by the hour end of the run in which all that is still out comes as late as it can, or never."""
    line, working = record.line, record.working
    heights = [max(-1, end - setting) for setting in settings]
    seen = [(event, hour - settings[working.box_of(event)]) for event, hour in enumerate(hours) if hour is not None]
    letters = record.letters()
    for source, target, _, high in line.wires():
        for sent in range(heights[source] + 1):
            if high is not None and record.come(source, target, sent) is None:
                letters.append((source, target, sent, settings[source] + sent + high - settings[target]))
    letters = [letter for letter in letters if letter[3] <= heights[letter[1]]]
    seen = [(event, reading) for event, reading in seen if reading <= heights[working.box_of(event)]]
    return Record(working, heights, seen=seen, letters=letters)


class TestContinuation(Case):

    def test_what_is_seen_and_what_follows(self):
        self.assertEqual(continuation(EXAMPLE, [0, 0]), [1, 5, None, 10, None, None, None])
        self.assertEqual(continuation(record=EXAMPLE, settings=[-7, 40]), [-6, -2, None, 3, None, None, None])

    def test_the_first_seen_ancestor_counts(self):
        record = Record(WORKING, [1, 9], seen=[(0, 1), (1, 3)])
        self.assertEqual(continuation(record, [10, 20]), [11, 23, None, 28, None, None, None])

    def test_behind_a_seen_unbounded_ride(self):
        record = Record(WORKING, [30, 9], seen=[(0, 1), (1, 3), (3, 8), (4, 30), (2, 5)])
        self.assertEqual(continuation(record, [0, 0]), [1, 3, 5, 8, 30, 31, None])

    def test_nothing_is_seen(self):
        self.assertEqual(continuation(Record(WORKING, [5, 5]), [0, 0]), [None] * 7)
        self.assertEqual(continuation(Record(Working(LINE, []), [5, 5]), [0, 0]), [])

    def test_the_record_need_not_be_possible(self):
        self.assertEqual(continuation(SILENT, [0, -1]), [1, 5, None, 10, None, None, None])

    def test_at_random(self):
        chance = random.Random(60)
        for record in random_records(chance, 100):
            settings = [chance.randint(-9, 9) for _ in range(record.line.size)]
            self.assertEqual(continuation(record, settings), hours_by_hand(record, settings))

    def test_it_tells_of_a_run_that_holds_the_record(self):
        chance = random.Random(61)
        found = 0
        for record in possible_records(chance, 150):
            if min(record.heights()) < 0:
                continue
            for settings in chance.sample(small_placings(record, width=5), 1):
                end = max(setting + height for setting, height in zip(settings, record.heights())) + 8
                run = run_by(record, settings, continuation(record, settings), end)
                self.assertTrue(keeps_all(least_bounds(run), settings))
                self.assertEqual(set(record.seen()) - set(run.seen()), set())
                self.assertEqual(set(record.letters()) - set(run.letters()), set())
                for event, reading in run.seen():
                    later = reading > record.height(record.working.box_of(event))
                    self.assertTrue(later or (event, reading) in record.seen())
                found += len(run.seen()) - len(record.seen())
        self.assertGreater(found, 10)

    def test_lists_of_another_length(self):
        for record in (EXAMPLE, SILENT):
            for settings in ([], [4]):
                self.refuses("BadSettings", (len(settings),), lambda: continuation(record, settings))
            for settings in ([0, 0, 0], [1] * 9):
                self.refuses("BadSettings", (2,), lambda: continuation(record, settings))


class TestOtherRun(Case):

    def test_the_hours_decide(self):
        # The setting of the box 1 is from -1 to 2; the ride comes at the hour 5 at the latest.
        for setting in (-1, 0, 2):
            for now in (0, 3, 9):
                hours = setting + now - 5
                self.assertIs(is_other_run(EXAMPLE, 1, now, 1, hours, [0, setting]), False)
                self.assertIs(is_other_run(EXAMPLE, 1, now, 1, hours + 1, [0, setting]), True)

    def test_settings_that_are_no_placing(self):
        for setting in (-2, 3):
            self.assertIs(is_other_run(EXAMPLE, 1, 0, 1, 99, [0, setting]), False)
            self.assertIs(is_other_run(EXAMPLE, 1, 0, 6, 99, [0, setting]), False)

    def test_an_event_that_may_never_happen(self):
        for event in (2, 4, 5, 6):
            for hours in (-10 ** 9, 0, 10 ** 9):
                self.assertIs(is_other_run(EXAMPLE, 0, 1, event, hours, [5, 5]), True)

    def test_lists_of_another_length_are_none(self):
        for settings in ([], [0], [0, 0, 0]):
            self.assertIs(is_other_run(EXAMPLE, 0, 1, 2, 0, settings), False)

    def test_no_list_is_one_if_the_record_is_not_possible(self):
        for settings in ([0, 0], [9, -9]):
            self.assertIs(is_other_run(SILENT, 0, 9, 2, 99, settings), False)

    def test_at_random(self):
        chance = random.Random(62)
        counts = [0, 0]
        for record in possible_records(chance, 80):
            rows = small_placings(record, width=4)
            for event in range(record.working.size):
                box = chance.randrange(record.line.size)
                now = max(0, record.height(box)) + chance.randint(0, 3)
                settings = list(chance.choice(rows))
                hour = hours_by_hand(record, settings)[event]
                for hours in range(-4, 5):
                    expected = hour is None or hour + hours > settings[box] + now
                    counts[expected] += 1
                    self.assertIs(is_other_run(record, box, now, event, hours, settings), expected)
                settings[0] += 60
                if record.line.size > 1 and not keeps_all(least_bounds(record), settings):
                    self.assertIs(is_other_run(record, box, now, event, 99, settings), False)
        self.assertGreater(min(counts), 100)

    def test_the_errors_in_their_order(self):
        for record in (EXAMPLE, SILENT, next(impossible_records(random.Random(63), 99))):
            for box in (-1, record.line.size):
                self.refuses("NoBox", (box,), lambda: is_other_run(record, box, -1, 99, 0, []))
            for box in range(record.line.size):
                for now in {-1, record.height(box) - 1} - {record.height(box)}:
                    if now < max(0, record.height(box)):
                        self.refuses("BadReading", (box, now), lambda: is_other_run(record, box, now, 99, 0, []))
                now = max(0, record.height(box))
                for event in (-1, record.working.size):
                    self.refuses("NoEvent", (event,), lambda: is_other_run(record, box, now, event, 0, []))
        is_other_run(record=EXAMPLE, box=0, now=1, event=0, hours=0, settings=[0, 0])


class TestCopies(Case):

    def test_nothing_is_changed_and_every_list_is_new(self):
        before = frozen(record_answers(EXAMPLE))
        settings = [3, 4]
        self.same_after_spoiling(lambda: [continuation(EXAMPLE, settings)])
        is_other_run(EXAMPLE, 0, 1, 1, 2, settings)
        self.assertEqual(settings, [3, 4])
        self.assertEqual(frozen(record_answers(EXAMPLE)), before)


if __name__ == "__main__":
    unittest.main()
