"""Point 48: tables made of two tables."""

import random
import unittest

from helpers import Case, acts_of, frozen, random_records, random_table, random_worlds, table_answers
from surerails.combining import covers, cross_tables, merge_tables
from surerails.driving import drive
from surerails.lines import Line
from surerails.tables import Table
from surerails.workings import Working

LINE = Line(2, [(0, 1, 1, 2), (1, 0, 1, 3)])
WORKING = Working(LINE, [("free", 0), ("free", 1), ("act", 0, []), ("act", 1, [])])
FIRST = Table(WORKING, [(2, [(1, 4), (0, 2)]), (3, []), (2, [(1, 1)])])
SECOND = Table(WORKING, [(2, [(0, 5), (3, 1)]), (2, [(1, 2)]), (3, [(0, 7)])])


class TestCovers(Case):

    def check(self, first, second, expected):
        self.assertIs(covers(Table(WORKING, first), Table(WORKING, second)), expected)

    def test_one_need(self):
        for wait, expected in ((1, False), (2, False), (3, True), (4, True)):
            self.check([(2, [(0, 3)])], [(2, [(0, wait)])], expected)

    def test_another_event_or_act(self):
        self.check([(2, [(0, 3)])], [(2, [(1, 3)])], False)
        self.check([(2, [(0, 3)])], [(3, [(0, 3)])], False)

    def test_more_needs_ask_for_more(self):
        self.check([(2, [(0, 3)])], [(2, [(1, 1), (0, 3)])], True)
        self.check([(2, [(0, 3), (1, 1)])], [(2, [(0, 3)])], False)
        self.check([(2, [(0, 3), (1, 1)])], [(2, [(1, 1), (0, 9)])], True)
        self.check([(2, [])], [(2, [(0, 1)]), (2, [])], True)
        self.check([(2, [(0, 1)])], [(2, [])], False)

    def test_each_row_of_the_second_has_its_own_row_of_the_first(self):
        first = [(2, [(0, 3)]), (3, [(0, 1)]), (2, [(1, 2)])]
        self.check(first, [(2, [(1, 2)]), (2, [(0, 4)])], True)
        self.check(first, [(2, [(1, 2)]), (2, [(0, 2)])], False)
        self.check(first, [(2, [(1, 1), (0, 2)])], False)

    def test_no_rows(self):
        self.check([], [], True)
        self.check([(2, [(0, 3)])], [], True)
        self.check([], [(2, [(0, 3)])], False)

    def test_the_arguments_by_name(self):
        self.assertIs(covers(first=FIRST, second=FIRST), True)
        self.assertIs(covers(second=FIRST, first=SECOND), False)

    def test_what_covers_allows_no_less(self):
        chance = random.Random(120)
        found = 0
        for record in random_records(chance, 300):
            first = random_table(chance, record.working, longest=3)
            second = random_table(chance, record.working, longest=6)
            if covers(first, second):
                for act in acts_of(record.working):
                    for more in range(8):
                        now = max(0, record.height(record.working.box_of(act))) + more
                        allowed = second.allows(record, now, act)
                        found += allowed
                        self.assertTrue(first.allows(record, now, act) or not allowed)
        self.assertGreater(found, 50)

    def test_what_covers_comes_no_later(self):
        chance = random.Random(121)
        found = 0
        for world in random_worlds(chance, 200):
            second = random_table(chance, world.working)
            first = merge_tables(random_table(chance, world.working), second)
            extras = [chance.randint(0, 2) for _ in range(world.working.size)]
            for less, more in ((first, second), (second, second.with_waits(extras))):
                self.assertIs(covers(less, more), True)
                early, late = drive(world, less, 12), drive(world, more, 12)
                for event, reading in late.seen():
                    found += early.reading(event) != reading
                    self.assertIsNotNone(early.reading(event))
                    self.assertLessEqual(early.reading(event), reading)
        self.assertGreater(found, 20)


class TestMergeAndCross(Case):

    def test_merged_rows(self):
        table = merge_tables(FIRST, SECOND)
        self.assertIsInstance(table, Table)
        self.assertEqual(table.rows(), FIRST.rows() + SECOND.rows())
        self.assertEqual(merge_tables(first=SECOND, second=FIRST).rows(), SECOND.rows() + FIRST.rows())
        self.assertEqual(table.working.events(), WORKING.events())

    def test_crossed_rows(self):
        table = cross_tables(FIRST, SECOND)
        self.assertIsInstance(table, Table)
        self.assertEqual(table.rows(), [
            (2, [(0, 5), (1, 4), (3, 1)]), (2, [(0, 2), (1, 4)]), (3, [(0, 7)]),
            (2, [(0, 5), (1, 1), (3, 1)]), (2, [(1, 2)]),
        ])
        self.assertEqual(cross_tables(first=SECOND, second=FIRST).rows(), [
            (2, [(0, 5), (1, 4), (3, 1)]), (2, [(0, 5), (1, 1), (3, 1)]),
            (2, [(0, 2), (1, 4)]), (2, [(1, 2)]), (3, [(0, 7)]),
        ])

    def test_an_act_without_rows_in_one_table(self):
        table = Table(WORKING, [(3, [(1, 1)])])
        self.assertEqual(cross_tables(FIRST, table).rows(), [(3, [(1, 1)])])
        self.assertEqual(cross_tables(FIRST, Table(WORKING, [])).rows(), [])
        self.assertEqual(cross_tables(Table(WORKING, []), FIRST).rows(), [])
        self.assertEqual(merge_tables(FIRST, Table(WORKING, [])).rows(), FIRST.rows())

    def test_they_allow_what_one_or_both_allow(self):
        chance = random.Random(122)
        counts = {}
        for record in random_records(chance, 200):
            first = random_table(chance, record.working)
            second = random_table(chance, record.working)
            for act in acts_of(record.working):
                now = max(0, record.height(record.working.box_of(act))) + chance.randint(0, 5)
                pair = (first.allows(record, now, act), second.allows(record, now, act))
                counts[pair] = counts.get(pair, 0) + 1
                self.assertIs(merge_tables(first, second).allows(record, now, act), any(pair))
                self.assertIs(cross_tables(first, second).allows(record, now, act), all(pair))
        self.assertGreater(min(counts.values()), 10)
        self.assertEqual(len(counts), 4)

    def test_crossed_tables_can_be_passed_back(self):
        table = cross_tables(cross_tables(FIRST, SECOND), cross_tables(FIRST, FIRST))
        self.assertEqual(len(table.rows()), 4 * 4 + 1)
        self.assertIs(covers(FIRST, table), True)
        self.assertIs(covers(SECOND, table), True)


class TestCopies(Case):

    def test_nothing_is_changed_and_every_list_is_new(self):
        before = frozen([table_answers(FIRST), table_answers(SECOND)])
        self.same_after_spoiling(lambda: [
            table_answers(merge_tables(FIRST, SECOND)), table_answers(cross_tables(FIRST, SECOND)),
            covers(FIRST, SECOND),
        ])
        merged, crossed = merge_tables(FIRST, SECOND), cross_tables(FIRST, SECOND)
        self.same_after_spoiling(lambda: [table_answers(merged), table_answers(crossed)])
        self.assertEqual(frozen([table_answers(FIRST), table_answers(SECOND)]), before)


if __name__ == "__main__":
    unittest.main()
