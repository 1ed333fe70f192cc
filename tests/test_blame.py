"""Point 50: which acts a rule gives leave for, and which ones it blames."""

import random
import unittest

from helpers import Case, acts_of, frozen, possible_records, random_rule, random_table, random_worlds, record_answers
from surerails.blame import blamed, culprits, leaves
from surerails.driving import drive
from surerails.eves import eve_of
from surerails.freest import Freest
from surerails.lines import Line
from surerails.records import Record
from surerails.rules import Honest
from surerails.tables import Table, news_table
from surerails.workings import Working

LINE = Line(2, [(0, 1, 1, 2), (1, 0, 1, 3)])
WORKING = Working(LINE, [
    ("free", 0), ("act", 0, [(0, 3)]), ("act", 0, [(0, 2)]), ("act", 1, [(1, 2)]), ("act", 0, [(0, 5)]),
])
# The act 1 is done one hour too early, the act 2 in time, and the act 3 before the act 1 is surely two hours old.
LETTERS = [(0, 1, sent, sent + 1) for sent in range(4)] + [(1, 0, sent, sent + 1) for sent in range(3)]
RECORD = Record(WORKING, [4, 4], seen=[(0, 0), (1, 2), (2, 3), (3, 3)], letters=LETTERS)


def may(record, rule, act):
    """Whether the rule allows a seen act in the eve of its moment."""
    reading = record.reading(act)
    return rule.allows(eve_of(record, record.working.box_of(act), reading), reading, act)


def driven_records(chance, count):
    """Records of drives under rules at random."""
    for world in random_worlds(chance, count):
        yield drive(world, random_table(chance, world.working, longest=2), 8)


class TestLeaves(Case):

    def test_acts_that_may_be_done(self):
        self.assertEqual([leaves(RECORD, Freest(), 0, reading) for reading in range(5)], [[], [], [2], [2], []])
        record = Record(Working(Line(2, []), WORKING.events()), [9, -1], seen=[(0, 0)])
        expected = [[], [], [2], [1, 2], [1, 2], [1, 2, 4], [1, 2, 4]]
        self.assertEqual([leaves(record, Freest(), 0, reading) for reading in range(7)], expected)

    def test_an_act_of_this_very_moment_is_among_them_if_it_is_allowed(self):
        self.assertEqual(leaves(RECORD, Freest(), 0, 3), [2])
        record = Record(WORKING, [4, -1], seen=[(0, 0), (1, 3), (2, 3)])
        self.assertEqual(leaves(record, Freest(), 0, 3), [1, 2])
        self.assertEqual(leaves(record, Freest(), 0, 4), [])

    def test_acts_of_the_box_alone(self):
        always = Table(WORKING, [(act, []) for act in (4, 3, 2, 1)])
        self.assertEqual(leaves(Record(WORKING, [0, 0]), always, 0, 0), [1, 2, 4])
        self.assertEqual(leaves(record=Record(WORKING, [0, 0]), rule=always, box=1, reading=0), [3])

    def test_against_the_words_of_the_point(self):
        chance = random.Random(140)
        found = 0
        for record in driven_records(chance, 120):
            rule = random_rule(chance, record.working, 2)
            for box, height in enumerate(record.heights()):
                for reading in range(height + 1):
                    eve = eve_of(record, box, reading)
                    expected = [
                        act for act in acts_of(record.working)
                        if record.working.box_of(act) == box and eve.reading(act) is None
                        and rule.allows(eve, reading, act)
                    ]
                    found += len(expected)
                    self.assertEqual(leaves(record, rule, box, reading), expected)
        self.assertGreater(found, 100)

    def test_no_moment(self):
        for box in (-1, 2):
            self.refuses("NoBox", (box,), lambda: leaves(RECORD, Freest(), box, 99))
        for reading in (-1, 5):
            self.refuses("BadReading", (0, reading), lambda: leaves(RECORD, Freest(), 0, reading))
        self.refuses("BadReading", (1, 0), lambda: leaves(Record(WORKING, [0, -1]), Freest(), 1, 0))


class TestBlame(Case):

    def test_who_is_blamed(self):
        self.assertEqual(blamed(RECORD, Freest()), [1, 3])
        self.assertEqual(blamed(RECORD, Table(WORKING, [])), [1, 2, 3])
        self.assertEqual(blamed(RECORD, Table(WORKING, [(1, []), (2, []), (3, [])])), [])
        self.assertEqual(blamed(record=RECORD, rule=Table(WORKING, [(1, [(0, 2)]), (3, [(1, 1)])])), [2, 3])
        self.assertEqual(blamed(Record(WORKING, [0, 0]), Freest()), [])

    def test_acts_of_one_moment_do_not_count_on_each_other(self):
        working = Working(LINE, [("act", 0, []), ("act", 0, [(0, 1)])])
        record = Record(working, [4, -1], seen=[(0, 2), (1, 2)])
        self.assertEqual(blamed(record, Table(working, [(0, []), (1, [(0, 1)])])), [1])

    def test_culprits(self):
        # The box 1 knows of the act 1 from 3 on, but the act 1 does not know of the act 3.
        self.assertEqual(culprits(RECORD, Freest()), [1])
        self.assertEqual(culprits(record=RECORD, rule=Table(WORKING, [(1, []), (3, [])])), [2])
        self.assertEqual(culprits(RECORD, Table(WORKING, [(1, []), (2, []), (3, [])])), [])

    def test_several_culprits(self):
        record = Record(WORKING, [1, 1], seen=[(1, 1), (2, 1), (3, 1)])
        self.assertEqual(blamed(record, Table(WORKING, [])), [1, 2, 3])
        self.assertEqual(culprits(record, Table(WORKING, [])), [1, 2, 3])

    def test_the_honest_rule_blames_also_whoever_knew(self):
        table = Table(WORKING, [(2, []), (3, [])])
        self.assertEqual(blamed(RECORD, table), [1])
        self.assertEqual(blamed(RECORD, Honest(table)), [1, 2, 3])
        self.assertEqual(culprits(RECORD, Honest(table)), [1])

    def test_against_the_words_of_the_point(self):
        chance = random.Random(141)
        found = []
        for make in (driven_records, possible_records):
            for record in make(chance, 150):
                rule = random_rule(chance, record.working, 2)
                acts = [event for event, _ in record.seen() if record.working.kind(event) == "act"]
                expected = [act for act in acts if not may(record, rule, act)]
                self.assertEqual(blamed(record, rule), expected)
                first = [
                    act for act in expected
                    if not any(
                        other != act
                        and eve_of(record, record.working.box_of(act), record.reading(act)).reading(other) is not None
                        for other in expected
                    )
                ]
                self.assertEqual(culprits(record, rule), first)
                found.append((len(expected), len(first)))
        self.assertGreater(len([1 for many, few in found if many > few]), 10)

    def test_there_is_a_culprit_whose_eve_is_held_by_a_run_of_the_rule(self):
        chance = random.Random(142)
        found = 0
        for record in driven_records(chance, 150):
            rule = random_rule(chance, record.working, 2)
            first = culprits(record, rule)
            self.assertEqual(bool(first), bool(blamed(record, rule)))
            for act in first:
                found += 1
                eve = eve_of(record, record.working.box_of(act), record.reading(act))
                self.assertEqual(blamed(eve, rule), [])
        self.assertGreater(found, 50)

    def test_nobody_is_blamed_in_a_drive_under_its_own_rule(self):
        chance = random.Random(143)
        done = 0
        for world in random_worlds(chance, 150):
            for rule in (Freest(), news_table(world.working), random_rule(chance, world.working, 3)):
                record = drive(world, rule, 9)
                done += len([1 for event, _ in record.seen() if record.working.kind(event) == "act"])
                self.assertEqual(blamed(record, rule), [])
                self.assertEqual(culprits(record, rule), [])
        self.assertGreater(done, 150)


class TestCopies(Case):

    def test_nothing_is_changed_and_every_list_is_new(self):
        before = frozen(record_answers(RECORD))
        rule = Honest(Freest())
        self.same_after_spoiling(lambda: [
            leaves(RECORD, rule, 0, 2), leaves(RECORD, Freest(), 0, 3), blamed(RECORD, rule), culprits(RECORD, rule),
        ])
        self.assertEqual(frozen(record_answers(RECORD)), before)


if __name__ == "__main__":
    unittest.main()
