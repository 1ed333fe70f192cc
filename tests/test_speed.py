"""Point 5: at the bounds every call ends within some seconds."""

import random
import unittest

from helpers import Case, line_answers, plan_answers, record_answers, working_answers
from surerails.books import book_of, books_together, closure_of, is_closed
from surerails.bounds import bounds_of, broken_bounds, is_placing
from surerails.cuts import Cut
from surerails.hearing import heard_at, is_trail, letter_news, trail_of
from surerails.lags import lag, lag_way, round_trip
from surerails.lines import Line
from surerails.needs import hours_between, needed_demands, thinned
from surerails.plans import Plan
from surerails.records import Record
from surerails.rings import find_ring, is_ring
from surerails.trains import Train
from surerails.translation import working_of
from surerails.workings import Working, bounded_chain

SECONDS = 3
WIRES = [(k, (k + 1) % 6, 1, 2) for k in range(6)] + [((k + 1) % 6, k, 1, 3) for k in range(6)]
BOUNDS = [(a, b, 10 ** 9) for a in range(6) for b in range(6) if a != b]


def full_line():
    return Line(6, WIRES, bounds=BOUNDS)


def full_working(*, upward=True):
    """60 events, in which each act demands the 10 events before it, or behind it."""
    events = [("free", number % 6) for number in range(10)]
    for number in range(10, 60):
        others = range(number - 10, number) if upward else range(number + 1, min(number + 11, 60))
        events.append(("act", number % 6, [(other, 1 + other % 3) for other in others]))
    return Working(full_line(), events)


def riding_working():
    events = [("free", 0)] + [("ride", number % 6, number - 1, 2, 5) for number in range(1, 60)]
    return Working(full_line(), events)


def true_record():
    """Readings up to 80, and 1000 letters, most of them in time."""
    letters = []
    for at in range(83):
        for source, target, _, high in WIRES:
            come = at + 1 + at % high
            if at <= 80 and come <= 80 and len(letters) < 1000:
                letters.append((source, target, at, come))
    seen = [(event, 2 * event) for event in range(40)]
    return Record(riding_working(), [80] * 6, seen=seen, letters=letters)


def backward_record():
    """Letters and rides that lead from each reading to the one before it: hops without end."""
    letters = []
    for at in range(80, 0, -1):
        for source, target, _, _ in WIRES:
            if len(letters) < 1000:
                letters.append((source, target, at, at - 1 if source == 5 and target == 0 else at))
    seen = [(event, 79 - event) for event in range(60)]
    return Record(riding_working(), [80] * 6, seen=seen, letters=letters)


class TestSpeed(Case):

    def quick(self, *calls):
        for call in calls:
            with self.ends_within(SECONDS):
                call()

    def test_lines_and_lags(self):
        line = full_line()
        self.quick(
            full_line, lambda: line_answers(line), lambda: lag(line, 0, 3), lambda: lag(line, 0, 3, late=True),
            lambda: lag_way(line, 0, 3), lambda: lag_way(line, 0, 3, late=True), lambda: round_trip(line, 2),
        )

    def test_workings(self):
        working = riding_working()
        self.quick(full_working, riding_working, lambda: working_answers(working))
        self.quick(lambda: bounded_chain(working, 59))

    def test_rings(self):
        ringed = Working(full_line(), [("act", 0, [((number + 1) % 60, 1)]) for number in range(60)])
        for working in (full_working(), full_working(upward=False), riding_working(), ringed):
            self.quick(lambda: find_ring(working))
            self.quick(lambda: is_ring(working, list(range(60))), lambda: is_ring(working, list(range(200))))
        self.assertTrue(is_ring(ringed, list(range(60))))

    def test_needs(self):
        for working in (full_working(), full_working(upward=False), riding_working()):
            self.quick(lambda: hours_between(working, 0, 59), lambda: hours_between(working, 59, 10))
            self.quick(lambda: needed_demands(working), lambda: thinned(working))

    def test_plans(self):
        rides = [(3, 9)] * 5
        trains = [Train(0, [k] * 6, rides) if k % 2 else Train(5, [k] * 6, rides, east=False) for k in range(6)]
        orders = [[[k] for k in range(6)] for _ in range(6)]
        sections = [list(range(6)) for _ in range(5)]
        plan = Plan(full_line(), [6] * 6, trains, orders, sections)
        self.quick(lambda: Plan(full_line(), [6] * 6, trains, orders, sections))
        self.quick(lambda: plan_answers(plan), lambda: working_of(plan))
        working = working_of(plan)
        self.quick(lambda: needed_demands(working), lambda: find_ring(working), lambda: thinned(working))

    def test_records_and_books(self):
        for make in (true_record, backward_record):
            record = make()
            self.quick(make, lambda: record_answers(record), lambda: record.part(Cut([80] * 6)))
            for box in range(6):
                self.quick(lambda: book_of(record, box, 80), lambda: book_of(record, box, 0))
            cut = Cut([-1, 80, -1, -1, -1, -1])
            self.quick(lambda: closure_of(record, cut), lambda: is_closed(record, cut))
            moments = [(at % 6, at % 81) for at in range(200)]
            self.quick(lambda: books_together(record, moments))
            with self.ends_within(SECONDS):
                self.assertEqual(record.first_missing(0, 1) > 70, make is true_record)

    def test_hearing(self):
        for make in (true_record, backward_record):
            record = make()
            for goal in ((3, 0), (3, 40), (3, 80), (0, 0)):
                self.quick(lambda: trail_of(record, (0, 80), goal), lambda: trail_of(record, (0, 0), goal))
            hops = [("letter",) + record.letters()[at] for at in range(200)]
            self.quick(lambda: is_trail(record, (0, 0), (3, 80), hops))
            self.quick(lambda: heard_at(record, (0, 80), 3), lambda: heard_at(record, (0, 0), 3))
            source, target, sent, _ = record.letters()[500]
            self.quick(lambda: letter_news(record, source, target, sent))

    def test_long_trails_are_found(self):
        record = backward_record()
        with self.ends_within(SECONDS):
            trail = trail_of(record, (0, 80), (0, 0))
        self.assertTrue(is_trail(record, (0, 80), (0, 0), trail))
        self.assertGreater(len(trail), 50)

    def test_bounds(self):
        for make in (true_record, backward_record):
            record = make()
            self.quick(lambda: bounds_of(record), lambda: is_placing(record, [0] * 6))
            self.quick(lambda: broken_bounds(record, [0, 9, 0, 9, 0, 9]))
            self.assertGreater(len(bounds_of(record)), 1800)

    def test_random_records_at_the_bounds(self):
        chance = random.Random(5)
        keys = {(source, target, chance.randint(0, 80)) for source, target, _, _ in WIRES for _ in range(300)}
        letters = [key + (chance.randint(0, 80),) for key in sorted(keys)]
        chance.shuffle(letters)
        record = Record(full_working(), [80] * 6, letters=letters[:1000])
        for _ in range(5):
            first = (chance.randrange(6), chance.randint(0, 80))
            second = (chance.randrange(6), chance.randint(0, 80))
            self.quick(lambda: trail_of(record, first, second), lambda: heard_at(record, first, second[0]))
            self.quick(lambda: book_of(record, *first))


if __name__ == "__main__":
    unittest.main()
