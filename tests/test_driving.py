"""Point 52: what happens in a world under a rule."""

import random
import unittest

from helpers import (
    Case, acts_of, frozen, keeps_all, kept_demands, random_rule, random_table, random_worlds, record_answers,
    world_answers,
)
from surerails.blame import blamed
from surerails.bounds import bounds_of
from surerails.driving import drive
from surerails.eves import eve_of
from surerails.freest import Freest
from surerails.lines import Line
from surerails.records import Record
from surerails.rules import Both, Either, Honest
from surerails.tables import Table, news_table
from surerails.workings import Working
from surerails.worlds import World

LINE = Line(2, [(0, 1, 1, 2), (1, 0, 1, 3)])
WORKING = Working(LINE, [("free", 0), ("ride", 1, 0, 2, 4), ("act", 0, [(1, 1)])])
WORLD = World(WORKING, [0, 0], [1, 2, 0], [[1], [1]])
ALONE = Line(1, [])


class OddReadings:
    """A rule from elsewhere; point 45 asks of a rule nothing but its method allows."""

    def allows(self, record, now, act):
        return now % 2 == 1 and record.reading(act) is None


def letters_by_hand(world, heights):
    """Point 51 to the letter."""
    settings = world.settings()
    letters = []
    for at, (source, target, _, _) in enumerate(world.working.line.wires()):
        row = world.lates()[at]
        for sent in range(heights[source] + 1):
            late = row[sent % len(row)]
            if late is not None and settings[source] + sent + late <= settings[target] + heights[target]:
                letters.append((source, target, sent, settings[source] + sent + late - settings[target]))
    return letters


def reading_by_hand(world, rule, record, event):
    """The reading at which the event should happen in the drive with this record, or None: points 51 and 52."""
    working = world.working
    settings, box, whim = world.settings(), working.box_of(event), world.whims()[event]
    if whim is None:
        return None
    if working.kind(event) == "act":
        leaves = []
        for reading in range(record.height(box) + 1):
            if rule.allows(eve_of(record, box, reading), reading, event):
                leaves.append(reading)
                if leaves[0] <= reading - whim:
                    return reading
        return None
    reading = whim
    if working.kind(event) == "ride":
        cause = working.cause(event)[0]
        if record.reading(cause) is None:
            return None
        reading = settings[working.box_of(cause)] + record.reading(cause) + whim - settings[box]
    return reading if reading <= record.height(box) else None


def pausing(whims, **words):
    """The acts of a box alone with these pauses, driven under a table with these rows for so many hours."""
    working = Working(ALONE, [("free", 0)] + [("act", 0, []) for _ in whims])
    world = World(working, [words.get("setting", 0)], [words.get("free", 2)] + whims, [])
    return drive(world, Table(working, words["rows"]), words["hours"]).seen()


class TestDriving(Case):

    def check(self, world, rule, hours):
        record = drive(world, rule, hours)
        first = min(world.settings())
        heights = [max(-1, first + hours - 1 - setting) for setting in world.settings()]
        self.assertEqual(record.heights(), heights)
        self.assertEqual(record.letters(), letters_by_hand(world, heights))
        for event in range(world.working.size):
            self.assertEqual(record.reading(event), reading_by_hand(world, rule, record, event), event)
        self.assertTrue(keeps_all(bounds_of(record), world.settings()))
        return record

    def test_the_example_of_the_document(self):
        self.assertEqual(drive(WORLD, Freest(), 6).seen(), [(0, 1), (1, 3), (2, 4)])
        self.assertEqual(drive(WORLD, news_table(WORKING), 6).seen(), [(0, 1), (1, 3), (2, 5)])
        record = drive(world=WORLD, rule=Freest(), hours=6)
        self.assertIsInstance(record, Record)
        self.assertEqual(blamed(record, news_table(WORKING)), [2])
        self.assertEqual(record.heights(), [5, 5])
        self.assertEqual(record.letters(), [(s, 1 - s, at, at + 1) for s in (0, 1) for at in range(5)])

    def test_the_hours_end_the_drive(self):
        for hours, seen in ((1, []), (2, [(0, 1)]), (3, [(0, 1)]), (4, [(0, 1), (1, 3)]), (5, [(0, 1), (1, 3), (2, 4)])):
            record = self.check(WORLD, Freest(), hours)
            self.assertEqual(record.seen(), seen)
            self.assertEqual(record.heights(), [hours - 1, hours - 1])

    def test_a_box_whose_last_reading_is_less_than_0(self):
        line = Line(2, [(0, 1, 1, 9), (1, 0, 1, None)])
        working = Working(line, [("free", 1), ("act", 1, []), ("free", 0), ("act", 0, [])])
        world = World(working, [-3, 2], [0, 0, 4, 1], [[9, 8, 8], [None, 1]])
        record = self.check(world, Freest(), 5)
        self.assertEqual((record.heights(), record.seen(), record.letters()), ([4, -1], [(2, 4), (3, 1)], []))
        record = self.check(world, Freest(), 7)
        self.assertEqual((record.heights(), record.seen()), ([6, 1], [(0, 0), (1, 0), (2, 4), (3, 1)]))
        record = self.check(world, Freest(), 9)
        self.assertEqual((record.heights(), record.letters()), ([8, 3], [(1, 0, 1, 7)]))

    def test_settings_below_0_and_great_ones(self):
        for shift in (-10 ** 9, -7, 10 ** 9 - 80):
            world = World(WORKING, [shift, shift + 1], [1, 2, 0], [[1], [1]])
            self.assertEqual(self.check(world, Freest(), 9).seen(), [(0, 1), (1, 2), (2, 4)])

    def test_settings_far_apart(self):
        working = Working(Line(2, []), [("free", 1), ("act", 0, [])])
        record = self.check(World(working, [0, 10 ** 9], [0, 0], []), Freest(), 80)
        self.assertEqual((record.heights(), record.seen()), ([79, -1], [(1, 0)]))

    def test_lists_of_lateness_are_taken_in_turn(self):
        line = Line(2, [(0, 1, 1, 9), (1, 0, 2, None)])
        world = World(Working(line, []), [0, 0], [], [[3, 1, 5], [None, 2]])
        self.assertEqual(self.check(world, Freest(), 6).letters(), [
            (0, 1, 0, 3), (0, 1, 1, 2), (0, 1, 4, 5), (1, 0, 1, 3), (1, 0, 3, 5),
        ])

    def test_what_never_comes(self):
        line = Line(2, [(0, 1, 1, None)])
        working = Working(line, [("free", 0), ("free", 0), ("ride", 0, 1, 1, None), ("ride", 0, 1, 1, None)])
        record = self.check(World(working, [0, 0], [None, 1, None, 5], [[None]]), Freest(), 30)
        self.assertEqual((record.seen(), record.letters()), ([(1, 1), (3, 6)], []))
        self.assertEqual(self.check(World(working, [0, 0], [0, None, 1, 1], [[None]]), Freest(), 30).seen(), [(0, 0)])

    def test_rides_of_rides_and_of_acts(self):
        working = Working(ALONE, [("act", 0, []), ("ride", 0, 0, 1, 9), ("ride", 0, 1, 2, 9), ("act", 0, [(2, 1)])])
        world = World(working, [4], [3, 2, 5, 0], [])
        self.assertEqual(self.check(world, Freest(), 30).seen(), [(0, 3), (1, 5), (2, 10), (3, 11)])
        self.assertEqual(self.check(world, Freest(), 10).seen(), [(0, 3), (1, 5)])

    def test_a_pause(self):
        rows = [(1, [(0, 3)]), (2, [(0, 3)]), (3, [(0, 3)]), (4, [])]
        self.assertEqual(pausing([0, 1, 4, 7], rows=rows, hours=20), [(0, 2), (1, 5), (2, 6), (3, 9), (4, 7)])
        self.assertEqual(pausing([0, 1, 4, 7], rows=rows, hours=7), [(0, 2), (1, 5), (2, 6)])

    def test_an_act_that_is_never_done(self):
        rows = [(1, []), (2, []), (3, [(2, 1)])]
        self.assertEqual(pausing([None, 2, 0], rows=rows, hours=9), [(0, 2), (2, 2), (3, 3)])
        self.assertEqual(pausing([2, None, 0], rows=rows, hours=9), [(0, 2), (1, 2)])

    def test_an_act_without_rows(self):
        self.assertEqual(pausing([0, 0], rows=[(2, [])], hours=9), [(0, 2), (2, 0)])

    def test_acts_of_one_moment_do_not_count_on_each_other(self):
        rows = [(1, []), (2, [(1, 1)]), (3, [(2, 1)])]
        self.assertEqual(pausing([0, 0, 0], rows=rows, hours=9), [(0, 2), (1, 0), (2, 1), (3, 2)])

    def test_leave_that_is_withdrawn(self):
        # The act 1 may be done until the act 0 is known, which the honest rule does not allow.
        working = Working(ALONE, [("act", 0, []), ("act", 0, [])])
        rule = Either(Table(working, [(0, [])]), Honest(Table(working, [(1, [])])))
        for pause, seen in ((0, [(0, 2), (1, 0)]), (2, [(0, 2), (1, 2)]), (3, [(0, 2)]), (9, [(0, 2)])):
            self.assertEqual(self.check(World(working, [0], [2, pause], []), rule, 20).seen(), seen)

    def test_a_rule_that_allows_at_some_readings_only(self):
        working = Working(ALONE, [("act", 0, []), ("act", 0, [])])
        for pauses, seen in (([0, 1], [(0, 1), (1, 3)]), ([2, 3], [(0, 3), (1, 5)]), ([None, 6], [(1, 7)])):
            self.assertEqual(self.check(World(working, [4], pauses, []), OddReadings(), 20).seen(), seen)

    def test_letters_of_the_very_hour_are_known(self):
        table = Table(WORKING, [(2, [(1, 1)])])
        self.assertEqual(self.check(WORLD, table, 6).seen(), [(0, 1), (1, 3), (2, 5)])
        world = World(WORKING, [0, 0], [1, 2, 0], [[1], [3, 3, 3, 2]])
        self.assertEqual(self.check(world, table, 8).seen(), [(0, 1), (1, 3), (2, 6)])

    def test_against_the_words_of_the_points(self):
        chance = random.Random(160)
        done = 0
        for world in random_worlds(chance, 250, rings=True):
            record = self.check(world, random_rule(chance, world.working, chance.randint(0, 3)), chance.randint(1, 12))
            done += sum(record.reading(act) is not None for act in acts_of(world.working))
        self.assertGreater(done, 120)

    def test_the_parts_of_a_longer_drive(self):
        chance = random.Random(161)
        for world in random_worlds(chance, 60):
            rule = random_rule(chance, world.working, 2)
            long, short = drive(world, rule, 12), drive(world, rule, 7)
            for event, reading in long.seen():
                height = short.height(world.working.box_of(event))
                self.assertEqual(short.reading(event), reading if reading <= height else None)


class TestJoined(Case):

    def test_the_settings_of_a_world_are_a_placing_of_its_drive(self):
        chance = random.Random(162)
        for world in random_worlds(chance, 80):
            self.placing(drive(world, random_rule(chance, world.working, 1), 10), world.settings())

    def test_nobody_is_blamed_in_a_drive_under_its_own_rule(self):
        chance = random.Random(163)
        for world in random_worlds(chance, 80):
            rule = random_rule(chance, world.working, 2)
            self.assertEqual(blamed(drive(world, rule, 10), rule), [])

    def test_under_a_safe_rule_no_event_comes_earlier_than_under_the_freest(self):
        chance = random.Random(164)
        later = 0
        for world in random_worlds(chance, 250):
            news = news_table(world.working)
            for rule in (
                news, Honest(news), Both(Freest(), random_table(chance, world.working, longest=2)),
                Either(Honest(news), Honest(Both(Freest(), random_table(chance, world.working)))),
            ):
                freest, other = drive(world, Freest(), 14), drive(world, rule, 14)
                self.assertTrue(kept_demands(other, world.settings()))
                for event, reading in other.seen():
                    self.assertIsNotNone(freest.reading(event))
                    self.assertLessEqual(freest.reading(event), reading)
                    later += freest.reading(event) < reading
        self.assertGreater(later, 30)

    def test_under_the_freest_all_demands_are_kept(self):
        chance = random.Random(165)
        for world in random_worlds(chance, 100, rings=True):
            self.assertTrue(kept_demands(drive(world, Freest(), 12), world.settings()))


class TestCopies(Case):

    def test_nothing_is_changed_and_every_list_is_new(self):
        before = frozen(world_answers(WORLD))
        rule = Honest(Either(Freest(), news_table(WORKING)))
        self.same_after_spoiling(lambda: record_answers(drive(WORLD, rule, 6)))
        record = drive(WORLD, rule, 6)
        self.same_after_spoiling(lambda: record_answers(record))
        self.assertEqual(frozen(world_answers(WORLD)), before)


if __name__ == "__main__":
    unittest.main()
