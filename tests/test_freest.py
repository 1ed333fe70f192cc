"""Points 45 and 46: the freest safe rule, and why it refuses an act."""

import random
import unittest

from helpers import Case, acts_of, frozen, kept_demands, possible_records, random_worlds, record_answers
from surerails.continuing import continuation
from surerails.driving import drive
from surerails.eves import eve_of
from surerails.freest import Freest, refusal
from surerails.knowing import sure_age, surely
from surerails.lines import Line
from surerails.records import Record
from surerails.tables import news_table
from surerails.workings import Working

LINE = Line(2, [(0, 1, 1, 2), (1, 0, 1, 3)])
WORKING = Working(LINE, [
    ("free", 0), ("ride", 1, 0, 2, 4), ("act", 0, [(1, 1)]), ("act", 1, [(1, 2), (0, 3)]), ("act", 1, []),
    ("act", 0, [(5, 1)]),
])
# The setting of the box 1 minus that of the box 0 is from -1 to 2.
EXAMPLE = Record(WORKING, [1, -1], seen=[(0, 1)])
SILENT = Record(WORKING, [9, 9], seen=[(0, 1)])


class TestFreest(Case):

    def check(self, record, now, act):
        """Point 46 to the letter; tells whether the act is allowed."""
        box = record.working.box_of(act)
        late = [
            (event, wait) for event, wait in record.working.demands(act)
            if surely(record, box, now, event, wait)[0] == "open"
        ]
        found = refusal(record, now, act)
        self.assertIs(Freest().allows(record, now, act), not late)
        if not late:
            self.assertIsNone(found)
        else:
            event, settings = found
            self.assertIs(type(found), tuple)
            self.assertEqual(event, late[0][0])
            self.placing(record, settings)
            hour = continuation(record, settings)[event]
            self.assertTrue(hour is None or hour + late[0][1] > settings[box] + now)
        return not late

    def test_from_the_first_reading_at_which_it_is_sure(self):
        # The ride comes at the reading 5 of the box 0 at the latest.
        for now, allowed in ((1, False), (5, False), (6, True), (60, True)):
            self.assertIs(self.check(EXAMPLE, now, 2), allowed)
        # It comes at the reading 6 of the box 1 at the latest, the free event at 2.
        for now, allowed in ((0, False), (7, False), (8, True)):
            self.assertIs(self.check(EXAMPLE, now, 3), allowed)
        self.assertEqual(refusal(EXAMPLE, 4, 3)[0], 0)
        self.assertEqual(refusal(EXAMPLE, 5, 3)[0], 1)

    def test_an_act_without_demands(self):
        self.assertIs(self.check(EXAMPLE, 0, 4), True)

    def test_an_act_that_demands_itself(self):
        self.assertIs(self.check(EXAMPLE, 10 ** 9, 5), False)

    def test_an_act_that_is_seen_is_judged_like_any_other(self):
        record = Record(WORKING, [3, -1], seen=[(0, 1), (2, 2), (5, 2)])
        self.assertIs(self.check(record, 3, 2), False)
        self.assertIs(self.check(record, 6, 2), True)
        self.assertIs(self.check(record, 3, 5), True)

    def test_the_arguments_by_name(self):
        self.assertIs(Freest().allows(record=EXAMPLE, now=6, act=2), True)
        self.assertIsNone(refusal(record=EXAMPLE, now=6, act=2))

    def test_at_random(self):
        chance = random.Random(100)
        counts = [0, 0]
        for record in possible_records(chance, 150, boxes=4):
            for act in acts_of(record.working):
                least = max(0, record.height(record.working.box_of(act)))
                for now in (least, least + 2, least + 12):
                    counts[self.check(record, now, act)] += 1
        self.assertGreater(min(counts), 50)

    def test_all_demands_are_sure_just_when_it_is_allowed(self):
        chance = random.Random(101)
        for record in possible_records(chance, 60):
            for act in acts_of(record.working):
                box = record.working.box_of(act)
                now = max(0, record.height(box))
                ages = [(sure_age(record, box, now, event), wait) for event, wait in record.working.demands(act)]
                expected = all(age is not None and age >= wait for age, wait in ages)
                self.assertIs(Freest().allows(record, now, act), expected)

    def test_it_is_safe_and_no_rule_that_is_safe_allows_more(self):
        chance = random.Random(102)
        done = 0
        for world in random_worlds(chance, 400, rings=True):
            record = drive(world, Freest(), 12)
            done += sum(record.reading(act) is not None for act in acts_of(record.working))
            self.assertTrue(kept_demands(record, world.settings()))
            other = drive(world, news_table(world.working), 12)
            for act in acts_of(other.working):
                box, reading = other.working.box_of(act), other.reading(act)
                if reading is not None:
                    self.assertIs(Freest().allows(eve_of(other, box, reading), reading, act), True)
        self.assertGreater(done, 50)

    def test_what_it_refuses_may_break_a_demand(self):
        # If the act is done now, the demand is broken in the run of the other settings.
        chance = random.Random(103)
        found = 0
        for world in random_worlds(chance, 100):
            record = drive(world, Freest(), 8)
            for act in acts_of(record.working):
                box = record.working.box_of(act)
                for reading in range(record.height(box) + 1):
                    eve = eve_of(record, box, reading)
                    answer = refusal(eve, reading, act)
                    if answer is not None:
                        found += 1
                        event, settings = answer
                        wait = dict(record.working.demands(act))[event]
                        hour = continuation(eve, settings)[event]
                        self.assertTrue(hour is None or hour + wait > settings[box] + reading)
        self.assertGreater(found, 100)

    def test_the_errors_in_their_order(self):
        for record in (EXAMPLE, SILENT):
            for call in (Freest().allows, refusal):
                for act in (-1, 6):
                    self.refuses("NoEvent", (act,), lambda: call(record, -1, act))
                for act in (0, 1):
                    self.refuses("NotAct", (act,), lambda: call(record, -1, act))
                for act in (2, 3, 4):
                    box = WORKING.box_of(act)
                    for now in {-1, max(0, record.height(box)) - 1, -10 ** 9}:
                        self.refuses("BadReading", (box, now), lambda: call(record, now, act))
        for act in (2, 3, 4, 5):
            self.refuses_as_impossible(SILENT, lambda: Freest().allows(SILENT, 9, act))
            self.refuses_as_impossible(SILENT, lambda: refusal(SILENT, 9, act))


class TestCopies(Case):

    def test_nothing_is_changed_and_every_list_is_new(self):
        before = frozen(record_answers(EXAMPLE))
        rule = Freest()
        self.same_after_spoiling(lambda: [refusal(EXAMPLE, 5, 2), refusal(EXAMPLE, 5, 3), rule.allows(EXAMPLE, 5, 2)])
        self.assertEqual(frozen(record_answers(EXAMPLE)), before)


if __name__ == "__main__":
    unittest.main()
