"""Points 45 and 49: rules made of other rules."""

import random
import unittest

from helpers import (
    Case, acts_of, frozen, kept_demands, possible_records, random_rule, random_table, random_worlds, record_answers,
)
from surerails.blame import blamed, culprits, leaves
from surerails.driving import drive
from surerails.eves import eve_of
from surerails.freest import Freest
from surerails.lines import Line
from surerails.records import Record
from surerails.rules import Both, Either, Honest
from surerails.tables import Table, news_table
from surerails.workings import Working

LINE = Line(2, [(0, 1, 1, 2), (1, 0, 1, 3)])
WORKING = Working(LINE, [("free", 0), ("act", 0, [(0, 3)]), ("act", 0, [(0, 2)]), ("act", 1, [(1, 1)])])
# The box 0 allows 1 from the reading 3 on, and 2 from the reading 1 on.
TABLE = Table(WORKING, [(1, [(0, 3)]), (2, [(0, 1)]), (3, [(1, 1)])])
NEVER = Table(WORKING, [])
ALWAYS = Table(WORKING, [(1, []), (2, []), (3, [])])
FREE = Record(WORKING, [2, -1], seen=[(0, 0)])
SILENT = Record(WORKING, [9, 9], seen=[(0, 1)])


def seen_acts(record):
    return [event for event, _ in record.seen() if record.working.kind(event) == "act"]


def honest_by_hand(rule, record, now, act):
    """Point 49 to the letter."""
    working = record.working
    for done in seen_acts(record):
        reading = record.reading(done)
        if not rule.allows(eve_of(record, working.box_of(done), reading), reading, done):
            return False
    return rule.allows(record, now, act)


class TestEitherAndBoth(Case):

    def test_of_two_tables(self):
        for first, second, either, both in [
            (ALWAYS, ALWAYS, True, True), (ALWAYS, NEVER, True, False), (NEVER, ALWAYS, True, False),
            (NEVER, NEVER, False, False), (TABLE, ALWAYS, True, True), (TABLE, NEVER, True, False),
        ]:
            self.assertIs(Either(first, second).allows(FREE, 2, 2), either)
            self.assertIs(Both(first, second).allows(FREE, 2, 2), both)

    def test_the_reading_is_passed_on(self):
        for now, allowed in ((2, False), (3, True)):
            self.assertIs(Either(TABLE, NEVER).allows(FREE, now, 1), allowed)
            self.assertIs(Both(TABLE, ALWAYS).allows(FREE, now, 1), allowed)
            self.assertIs(Both(Freest(), ALWAYS).allows(FREE, now, 1), allowed)

    def test_at_random(self):
        chance = random.Random(130)
        counts = {}
        for record in possible_records(chance, 150):
            first = random_rule(chance, record.working, 1)
            second = random_rule(chance, record.working, 1)
            for act in acts_of(record.working):
                now = max(0, record.height(record.working.box_of(act))) + chance.randint(0, 6)
                pair = (first.allows(record, now, act), second.allows(record, now, act))
                counts[pair] = counts.get(pair, 0) + 1
                self.assertIs(Either(first, second).allows(record, now, act), any(pair))
                self.assertIs(Both(first, second).allows(record, now, act), all(pair))
        self.assertEqual(len(counts), 4)
        self.assertGreater(min(counts.values()), 3)


class TestHonest(Case):

    def test_a_record_without_acts(self):
        for now, allowed in ((2, False), (3, True)):
            self.assertIs(Honest(TABLE).allows(FREE, now, 1), allowed)

    def test_the_act_itself_is_asked(self):
        record = Record(WORKING, [4, -1], seen=[(0, 0), (1, 3)])
        self.assertIs(Honest(TABLE).allows(record, 4, 2), True)
        self.assertIs(Honest(TABLE).allows(record, 4, 3), False)

    def test_all_acts_that_are_seen_are_asked_at_their_readings(self):
        for reading, allowed in ((0, False), (2, False), (3, True), (4, True)):
            record = Record(WORKING, [4, -1], seen=[(0, 0), (1, reading)])
            self.assertIs(TABLE.allows(record, 9, 2), True)
            self.assertIs(Honest(TABLE).allows(record, 9, 2), allowed)
            self.assertIs(Honest(Freest()).allows(record, 9, 2), allowed)

    def test_acts_are_asked_in_their_eves(self):
        # The act 2 is done when the act 1 is, and so not with the act 1 in its eve.
        table = Table(WORKING, [(1, []), (2, [(1, 1)])])
        for reading, allowed in ((2, False), (3, True)):
            record = Record(WORKING, [4, -1], seen=[(1, 2), (2, reading)])
            self.assertIs(Honest(table).allows(record, 4, 1), allowed)

    def test_an_act_that_the_box_does_not_know_of_does_not_count(self):
        record = Record(WORKING, [4, 4], seen=[(0, 0), (3, 1)], letters=[
            (1, 0, 0, 2), (1, 0, 1, 4), (0, 1, 0, 1), (0, 1, 1, 2), (0, 1, 2, 3), (0, 1, 3, 4)])
        self.assertIs(Honest(TABLE).allows(record, 4, 2), False)
        self.assertIs(Honest(TABLE).allows(eve_of(record, 0, 3), 3, 2), True)
        self.assertIs(Honest(TABLE).allows(eve_of(record, 0, 4), 4, 2), False)

    def test_an_act_that_is_seen_and_asked_for(self):
        record = Record(WORKING, [4, -1], seen=[(0, 0), (1, 2)])
        self.assertIs(TABLE.allows(record, 4, 1), True)
        self.assertIs(Honest(TABLE).allows(record, 4, 1), False)

    def test_at_random(self):
        chance = random.Random(131)
        counts = {}
        for record in possible_records(chance, 400, events=8):
            for depth in (0, 1, 2, 3):
                rule = random_rule(chance, record.working, depth)
                for act in acts_of(record.working):
                    now = max(0, record.height(record.working.box_of(act))) + chance.randint(0, 6)
                    expected = honest_by_hand(rule, record, now, act)
                    pair = (rule.allows(record, now, act), expected)
                    counts[pair] = counts.get(pair, 0) + bool(seen_acts(record))
                    self.assertIs(Honest(rule).allows(record, now, act), expected)
        self.assertEqual(len(counts), 3)
        self.assertGreater(min(counts.values()), 20)

    def test_four_deep(self):
        chance = random.Random(132)
        done = [0, 0]
        for world in random_worlds(chance, 150):
            record = drive(world, random_table(chance, world.working, longest=2), 8)
            rule = random_table(chance, world.working, longest=2)
            four = Honest(Honest(Honest(Honest(rule))))
            for act in acts_of(record.working):
                now = max(0, record.height(record.working.box_of(act))) + 1
                expected = honest_by_hand(rule, record, now, act)
                done[expected] += 1
                self.assertIs(four.allows(record, now, act), expected)
        self.assertGreater(min(done), 20)

    def test_a_rule_and_the_honest_one_have_the_same_runs(self):
        chance = random.Random(133)
        for world in random_worlds(chance, 120):
            rule = random_rule(chance, world.working, 2)
            self.assertEqual(
                frozen(record_answers(drive(world, rule, 9))), frozen(record_answers(drive(world, Honest(rule), 9))))

    def test_either_of_honest_safe_rules_and_both_with_a_safe_rule_are_safe(self):
        chance = random.Random(134)
        done = 0
        for world in random_worlds(chance, 150):
            safe = [Freest(), news_table(world.working)]
            chance.shuffle(safe)
            for rule in (
                Either(Honest(safe[0]), Honest(safe[1])), Both(safe[0], random_rule(chance, world.working, 1)),
                Both(random_rule(chance, world.working, 1), safe[0]),
            ):
                record = drive(world, rule, 10)
                done += sum(bool(world.working.demands(event)) for event, _ in record.seen())
                self.assertTrue(kept_demands(record, world.settings()))
        self.assertGreater(done, 60)


class Mixed:
    """A rule from elsewhere; point 45 asks of a rule nothing but its method allows."""

    def allows(self, record, now, act):
        return now >= 2 if act == 2 else now >= 3


class TestRulesFromElsewhere(Case):

    def test_they_are_asked_by_their_method_allows(self):
        for now, allowed in ((2, False), (3, True)):
            self.assertIs(Either(NEVER, Mixed()).allows(FREE, now, 1), allowed)
            self.assertIs(Both(Mixed(), ALWAYS).allows(FREE, now, 1), allowed)
            self.assertIs(Honest(Honest(Mixed())).allows(FREE, now, 1), allowed)

    def test_what_they_say_of_a_record(self):
        record = Record(WORKING, [4, -1], seen=[(0, 0), (1, 2), (2, 2)])
        self.assertIs(Honest(Mixed()).allows(record, 4, 2), False)
        self.assertEqual([blamed(record, Mixed()), culprits(record, Mixed())], [[1], [1]])
        self.assertEqual([leaves(record, Mixed(), 0, reading) for reading in (1, 2, 3)], [[], [2], []])


class TestErrors(Case):

    def test_the_errors_in_their_order(self):
        for rule in (Either(TABLE, ALWAYS), Both(NEVER, Freest()), Honest(TABLE), Honest(Honest(Freest()))):
            for record in (FREE, SILENT):
                for act in (-1, 4):
                    self.refuses("NoEvent", (act,), lambda: rule.allows(record, -1, act))
                self.refuses("NotAct", (0,), lambda: rule.allows(record, -1, 0))
                for act in (1, 2, 3):
                    box = WORKING.box_of(act)
                    for now in {-1, max(0, record.height(box)) - 1, -10 ** 9}:
                        self.refuses("BadReading", (box, now), lambda: rule.allows(record, now, act))
            self.assertIn(rule.allows(record=FREE, now=2, act=1), (True, False))

    def test_the_arguments_of_the_classes_by_name(self):
        self.assertIs(Either(first=NEVER, second=ALWAYS).allows(FREE, 2, 1), True)
        self.assertIs(Both(first=NEVER, second=ALWAYS).allows(FREE, 2, 1), False)
        self.assertIs(Honest(rule=ALWAYS).allows(FREE, 2, 1), True)


class TestCopies(Case):

    def test_nothing_is_changed(self):
        record = Record(WORKING, [4, -1], seen=[(0, 0), (1, 3)])
        before = frozen([record_answers(record), TABLE.rows()])
        rules = (Either(TABLE, Freest()), Both(TABLE, Freest()), Honest(TABLE), Honest(Both(Freest(), TABLE)))
        for rule in rules:
            self.same_after_spoiling(lambda: [rule.allows(record, now, act) for now in (4, 9) for act in (1, 2, 3)])
        self.assertEqual(frozen([record_answers(record), TABLE.rows()]), before)

    def test_one_rule_may_judge_different_records(self):
        rule = Honest(TABLE)
        fair = Record(WORKING, [4, -1], seen=[(0, 0), (1, 3)])
        foul = Record(WORKING, [4, -1], seen=[(0, 0), (1, 2)])
        self.assertEqual([rule.allows(record, 4, 2) for record in (fair, foul, fair)], [True, False, True])


if __name__ == "__main__":
    unittest.main()
