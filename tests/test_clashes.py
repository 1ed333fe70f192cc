"""Points 67 and 68: two trains in one place at once, and what is wrong with a record of a plan."""

import itertools
import random
import unittest

from helpers import (
    Case, acts_of, frozen, plan_answers, random_plan, random_world, record_answers, spoil, true_record, wild_record,
)
from surerails.blame import blamed
from surerails.bounds import bounds_of
from surerails.clashes import clash, look
from surerails.continuing import continuation
from surerails.driving import drive
from surerails.freest import Freest
from surerails.lines import Line
from surerails.plans import Plan
from surerails.records import Record
from surerails.tables import Table
from surerails.trains import Train
from surerails.translation import working_of
from surerails.ways import is_possible

ALONE = Line(1, [])
PAIR = Line(2, [(0, 1, 1, 2), (1, 0, 1, 2)])
LOOSE = ((2, 3), (2, 2), (3, None), (2, 6))


def halts(count, *, away=(2, 4), order=None):
    """A plan of some trains that halt at the one track of one station."""
    trains = [Train(0, [0], [], away=away) for _ in range(count)]
    return Plan(ALONE, [1], trains, [[order or list(range(count))]], [])


def over_one_section(*, rides=((2, 4), (2, 4))):
    """Two trains that run towards each other over one section, each from and to a track of its own."""
    trains = [Train(0, [0, 0], [rides[0]]), Train(1, [1, 1], [rides[1]], east=False)]
    return Plan(PAIR, [2, 2], trains, [[[0], [1]], [[0], [1]]], [[0, 1]])


def holds_at(record, settings, stay):
    """The first hour of a stay and the first one behind it, which is None if it never ends."""
    hours = continuation(record, settings)
    return hours[stay[0]], hours[stay[1]]


def meet(first, second):
    """Whether two stays have an hour in common, by the words of the point."""
    ends = [end for _, end in (first, second) if end is not None]
    last = max(ends + [first[0], second[0]]) + 1
    hours = [
        {hour for hour in range(begin, last + 1) if end is None or hour < end} for begin, end in (first, second)
    ]
    return bool(hours[0] & hours[1])


def pairs_of(plan, record):
    """All (place, first, second) of begun stays, ascending."""
    found = []
    for place in plan.places():
        users = [train for train in plan.order(place) if record.reading(plan.stay(place, train)[0]) is not None]
        found.extend((place, first, second) for first, second in itertools.combinations(sorted(users), 2))
    return sorted(found)


def slow_clash(plan, record, *, width=14):
    """The least (place, first, second) for which some placing near 0 shows a clash, or None."""
    boxes = record.line.size
    bounds = {}
    for later, earlier, most, _ in bounds_of(record):
        bounds[later, earlier] = min(most, bounds.get((later, earlier), most))
    placings = [
        settings for settings in itertools.product([0], *[range(-width, width + 1)] * (boxes - 1))
        if all(settings[later] - settings[earlier] <= most for (later, earlier), most in bounds.items())
    ]
    for place, first, second in pairs_of(plan, record):
        stays = plan.stay(place, first), plan.stay(place, second)
        for settings in placings:
            if meet(holds_at(record, settings, stays[0]), holds_at(record, settings, stays[1])):
                return (place, first, second)
    return None


def done_at_random(chance, plan, *, hours=12, rule=None):
    """The record of a drive in which acts are done as they like, or by a rule."""
    working = working_of(plan)
    world = None
    while world is None:
        world = random_world(chance, working)
    return drive(world, rule or Table(working, [(act, []) for act in acts_of(working)]), hours)


class TestClash(Case):

    def check(self, plan, record):
        """What is found is a clash, and a search over small settings finds none before it."""
        found = clash(plan, record)
        if found is not None:
            self.assertIs(type(found), tuple)
            place, first, second, settings = found
            self.assertLess(first, second)
            self.placing(record, settings)
            stays = [plan.stay(place, train) for train in (first, second)]
            for begin, _ in stays:
                self.assertIsNotNone(record.reading(begin))
            self.assertTrue(meet(*[holds_at(record, settings, stay) for stay in stays]))
        slow = slow_clash(plan, record)
        self.assertEqual(slow, None if found is None else found[:3])
        return slow

    def seen(self, plan, heights, seen):
        return self.check(plan, Record(working_of(plan), heights, seen=seen))

    def test_two_trains_at_one_track(self):
        plan = halts(2)
        self.assertEqual(self.seen(plan, [9], [(0, 1), (1, 4), (2, 2), (3, 5)]), (("track", 0, 0), 0, 1))
        self.assertIsNone(self.seen(plan, [9], [(0, 1), (1, 4), (2, 6), (3, 8)]))
        # The order of the place says nothing here.
        self.assertIsNone(self.seen(plan, [9], [(2, 1), (3, 4), (0, 6), (1, 8)]))

    def test_a_stay_that_ends_at_the_hour_at_which_the_other_one_begins(self):
        plan = halts(2)
        self.assertIsNone(self.seen(plan, [9], [(0, 1), (1, 4), (2, 4), (3, 7)]))
        self.assertIsNone(self.seen(plan, [9], [(2, 1), (3, 4), (0, 4), (1, 7)]))
        self.assertEqual(self.seen(plan, [9], [(0, 1), (1, 5), (2, 4), (3, 7)]), (("track", 0, 0), 0, 1))

    def test_a_stay_that_has_not_begun(self):
        plan = halts(2)
        self.assertIsNone(self.seen(plan, [9], [(0, 1), (1, 4)]))
        self.assertIsNone(self.seen(plan, [9], [(2, 1), (3, 4)]))
        self.assertIsNone(self.seen(plan, [-1], []))

    def test_a_stay_that_is_not_over(self):
        plan = halts(2)
        # The train 0 leaves at 5 at the latest.
        self.assertEqual(self.seen(plan, [4], [(0, 1), (2, 4)]), (("track", 0, 0), 0, 1))
        self.assertEqual(self.seen(plan, [4], [(0, 3), (2, 4)]), (("track", 0, 0), 0, 1))

    def test_a_stay_that_never_ends(self):
        plan = halts(2, away=(2, None))
        self.assertEqual(self.seen(plan, [50], [(0, 1), (2, 40)]), (("track", 0, 0), 0, 1))
        self.assertEqual(self.seen(plan, [50], [(0, 30), (2, 40), (3, 45)]), (("track", 0, 0), 0, 1))
        self.assertIsNone(self.seen(plan, [50], [(0, 1), (1, 40), (2, 40)]))
        self.assertIsNone(self.seen(plan, [50], [(0, 46), (2, 40), (3, 45)]))

    def test_a_stay_that_ends_before_it_begins(self):
        # An arrival is a ride; but a departure may be seen before the arrival that it demands.
        train = Train(0, [0, 0, 0], [(2, 4), (2, 4)])
        told = [(first, second, 0) for first in range(3) for second in range(3) if first != second]
        line = Line(3, [(0, 1, 1, 2), (1, 2, 1, 2)], bounds=told)
        plan = Plan(line, [1, 1, 1], [train, train], [[[0, 1]], [[0, 1]], [[0, 1]]], [[0, 1], [0, 1]])
        letters = [(0, 1, at, at + 1) for at in range(20)] + [(1, 2, at, at + 1) for at in range(20)]
        # The train 0 leaves the box 1 at 3 though it left the box 0 only at 5: it holds the track of 1 at no hour.
        seen = [(0, 1), (1, 5), (2, 7), (3, 3), (4, 5), (5, 6), (6, 6), (7, 7), (8, 9), (9, 10), (10, 12), (11, 13)]
        record = Record(working_of(plan), [20, 20, 20], seen=seen, letters=letters)
        self.assertEqual(self.check(plan, record), None)
        for leaves, expected in ((6, None), (8, (("track", 1, 0), 0, 1))):
            change = {3: leaves, 4: leaves + 2, 5: leaves + 3}
            later = [(event, change.get(event, at)) for event, at in seen]
            record = Record(working_of(plan), [20, 20, 20], seen=later, letters=letters)
            self.assertEqual(self.check(plan, record), expected)

    def test_a_clash_that_only_some_placings_show(self):
        # The train 0 leaves the section at the reading 12 of the box 1, the train 1 enters it at one of the box 0;
        # the clock of the box 1 is set from 2 hours earlier to 2 hours later than that of the box 0.
        line = Line(2, [(0, 1, 1, 9), (1, 0, 1, 9)], bounds=[(0, 1, 2), (1, 0, 2)])
        trains = [Train(0, [0, 0], [(9, 14)]), Train(0, [1, 1], [(9, 14)])]
        plan = Plan(line, [2, 2], trains, [[[0], [1]], [[0], [1]]], [[0, 1]])
        letters = [(s, 1 - s, at, at + 5) for s in (0, 1) for at in range(12)]
        for departs, shows in ((9, 5), (10, 4), (12, 2), (13, 1), (14, 0)):
            seen = [(0, 0), (1, 1), (2, 12), (3, 13), (4, 0), (5, departs)]
            record = Record(working_of(plan), [16, 16], letters=letters, seen=seen)
            stays = [plan.stay(("section", 0), train) for train in (0, 1)]
            shown = []
            for later in range(-2, 3):
                self.placing(record, [0, later])
                if meet(*[holds_at(record, [0, later], stay) for stay in stays]):
                    shown.append(later)
            self.assertEqual(len(shown), shows)
            self.assertEqual(self.check(plan, record), (("section", 0), 0, 1) if shown else None)

    def test_three_trains_in_one_place(self):
        plan = halts(3, order=[2, 0, 1])
        self.assertEqual(self.seen(plan, [9], [(0, 1), (1, 5), (2, 2), (3, 5), (4, 3), (5, 7)]), (("track", 0, 0), 0, 1))
        self.assertEqual(self.seen(plan, [9], [(0, 1), (1, 3), (2, 3), (3, 6), (4, 4), (5, 8)]), (("track", 0, 0), 1, 2))
        self.assertEqual(self.seen(plan, [9], [(0, 1), (1, 4), (2, 5), (3, 8), (4, 3), (5, 5)]), (("track", 0, 0), 0, 2))

    def test_the_least_place_comes_first(self):
        plan = over_one_section()
        letters = [(s, 1 - s, at, at + 1) for s in (0, 1) for at in range(8)]
        seen = [(0, 0), (1, 1), (2, 4), (3, 5), (4, 0), (5, 2), (6, 5), (7, 6)]
        record = Record(working_of(plan), [8, 8], seen=seen, letters=letters)
        self.assertEqual(self.check(plan, record), (("section", 0), 0, 1))
        self.assertEqual(clash(plan=plan, record=record)[:3], (("section", 0), 0, 1))
        trains = [Train(0, [1], [], away=(3, 3)), Train(0, [0], [], away=(3, 3))] * 2
        plan = Plan(ALONE, [2], trains, [[[1, 3], [0, 2]]], [])
        seen = [(event, 1 if event % 2 == 0 else 4) for event in range(8)]
        self.assertEqual(self.seen(plan, [9], seen), (("track", 0, 0), 1, 3))
        self.assertEqual(self.seen(plan, [9], [pair for pair in seen if pair[0] < 6]), (("track", 0, 1), 0, 2))

    def test_no_trains(self):
        self.assertIsNone(self.seen(Plan(ALONE, [1], [], [[[]]], []), [4], []))

    def test_at_random(self):
        chance = random.Random(280)
        counts = [0, 0]
        for _ in range(160):
            plan = random_plan(chance, hours=LOOSE, away=((1, 1), (2, 5), (1, None)))
            if plan.line.size <= 3:
                for record in (done_at_random(chance, plan, hours=chance.randint(3, 9)), true_record(chance, working_of(plan))):
                    if record is not None:
                        counts[self.check(plan, record) is None] += 1
        self.assertGreater(min(counts), 20)

    def test_records_that_are_not_possible(self):
        plan = halts(2)
        record = Record(working_of(plan), [9], seen=[(0, 1), (2, 2)])
        self.refuses_as_impossible(record, lambda: clash(plan, record))
        empty = Plan(Line(2, [(0, 1, 1, 2)], bounds=[(0, 1, 0)]), [1, 1], [], [[[]], [[]]], [[]])
        silent = Record(working_of(empty), [3, 90])
        self.refuses_as_impossible(silent, lambda: clash(empty, silent))


class TestLook(Case):

    def check(self, plan, record):
        found = look(plan, record)
        self.assertIs(type(found), tuple)
        word, values = found
        self.assertIs(type(values), list)
        if not is_possible(record):
            self.assertEqual(word, "impossible")
            self.bad_ring(record, values)
        elif blamed(record, Freest()):
            self.assertEqual((word, values), ("blamed", blamed(record, Freest())))
        else:
            self.assertEqual((word, values), ("clear", []))
            self.assertIsNone(clash(plan, record))
        return word

    def test_the_three_words(self):
        plan = halts(2)
        working = working_of(plan)
        clear = Record(working, [9], seen=[(0, 1), (1, 4), (2, 5), (3, 8)])
        self.assertEqual(self.check(plan, clear), "clear")
        self.assertEqual(look(plan=plan, record=clear), ("clear", []))
        early = Record(working, [9], seen=[(0, 1), (1, 4), (2, 4), (3, 8)])
        self.assertEqual(self.check(plan, early), "blamed")
        self.assertEqual(look(plan, early), ("blamed", [2]))
        self.assertIsNone(clash(plan, early))
        overdue = Record(working, [9], seen=[(0, 1), (2, 2)])
        self.assertEqual(self.check(plan, overdue), "impossible")

    def test_at_random(self):
        chance = random.Random(281)
        counts = {"impossible": 0, "blamed": 0, "clear": 0}
        for _ in range(80):
            plan = random_plan(chance, hours=LOOSE)
            for record in (done_at_random(chance, plan), wild_record(chance, working_of(plan))):
                counts[self.check(plan, record)] += 1
        self.assertGreater(min(counts.values()), 15)

    def test_what_the_freest_rule_lets_happen_is_clear(self):
        chance = random.Random(282)
        done = 0
        for _ in range(60):
            plan = random_plan(chance, hours=LOOSE, away=((1, 1), (2, 5), (1, None)))
            record = done_at_random(chance, plan, hours=20, rule=Freest())
            done += len(record.seen())
            self.assertEqual(look(plan, record), ("clear", []))
            self.assertIsNone(clash(plan, record))
        self.assertGreater(done, 100)


class TestCopies(Case):

    def test_nothing_is_changed_and_every_list_is_new(self):
        plan = halts(2)
        for seen in ([(0, 1), (2, 2)], [(0, 1), (1, 4), (2, 3), (3, 6)], [(0, 1), (1, 4), (2, 4)]):
            record = Record(working_of(plan), [7], seen=seen)
            before = frozen([plan_answers(plan), record_answers(record)])
            self.same_after_spoiling(lambda: look(plan, record))
            if is_possible(record):
                self.same_after_spoiling(lambda: clash(plan, record))
            spoil([look(plan, record)])
            self.assertEqual(frozen([plan_answers(plan), record_answers(record)]), before)


if __name__ == "__main__":
    unittest.main()
