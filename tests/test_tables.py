"""Points 45 and 47: rules that are written as tables."""

import random
import unittest

from helpers import (
    Case, acts_of, frozen, kept_demands, random_line, random_records, random_table, random_working, random_worlds,
    record_answers, table_answers,
)
from surerails.driving import drive
from surerails.hearing import heard_at
from surerails.lines import Line
from surerails.records import Record
from surerails.tables import Table, news_table
from surerails.workings import Working

LINE = Line(3, [(0, 1, 1, 2), (1, 0, 1, 3), (1, 2, 1, None)])
WORKING = Working(LINE, [
    ("free", 0), ("ride", 1, 0, 2, 4), ("act", 0, [(1, 1)]), ("act", 2, [(0, 3), (1, 2)]), ("act", 1, []),
])
ROWS = [(3, [(1, 4), (0, 2)]), (2, []), (3, [(0, 9)]), (3, [(4, 1)])]
TABLE = Table(WORKING, ROWS)
# The box 1 hears of the free event at 3, the box 2 of it and of the ride at 2; the boxes 0 and 1 hear of no act.
RECORD = Record(
    WORKING, [4, 5, 3], seen=[(0, 2), (1, 4), (4, 5)], letters=[(0, 1, 2, 3), (1, 2, 4, 2), (1, 2, 3, 3)])
# Each box is silent for too long.
SILENT = Record(WORKING, [9, 9, 9], seen=[(0, 1)])


def allows_by_hand(table, record, now, act):
    """Point 47 to the letter."""
    working = record.working
    for other, needs in table.rows():
        met = other == act
        for event, wait in needs:
            if met and record.reading(event) is None:
                met = False
            if met:
                moment = (working.box_of(event), record.reading(event))
                heard = heard_at(record, moment, working.box_of(act))
                met = heard is not None and heard <= now - wait
        if met:
            return True
    return False


class TestRows(Case):

    def test_rows_in_the_order_in_which_they_were_passed(self):
        self.assertEqual(TABLE.rows(), [(3, [(0, 2), (1, 4)]), (2, []), (3, [(0, 9)]), (3, [(4, 1)])])
        self.assertEqual(TABLE.rows_of(3), [[(0, 2), (1, 4)], [(0, 9)], [(4, 1)]])
        self.assertEqual(TABLE.rows_of(act=2), [[]])
        self.assertEqual([TABLE.rows_of(event) for event in (0, 1, 4)], [[], [], []])

    def test_needs_may_be_tuples(self):
        table = Table(working=WORKING, rows=[(3, ((1, 4), (0, 2)))])
        self.assertEqual(table.rows(), [(3, [(0, 2), (1, 4)])])
        self.assertIs(type(table.rows()[0][1]), list)

    def test_no_rows(self):
        table = Table(WORKING, [])
        self.assertEqual([table.rows(), table.rows_of(4)], [[], []])
        self.assertEqual(table.working.events(), WORKING.events())

    def test_the_same_row_twice_and_an_act_that_needs_itself(self):
        rows = [(2, [(2, 1)]), (2, [(2, 1)])]
        self.assertEqual(Table(WORKING, rows).rows(), rows)

    def test_the_errors_row_by_row_and_need_by_need(self):
        for rows, name, values in [
            ([(-1, [(9, 0)])], "NoEvent", (-1,)), ([(5, [(9, 0)])], "NoEvent", (5,)),
            ([(0, [(9, 0)])], "NotAct", (0,)), ([(1, [])], "NotAct", (1,)),
            ([(2, [(-1, 0)])], "NoEvent", (-1,)), ([(2, [(0, 1), (5, 0)])], "NoEvent", (5,)),
            ([(2, [(0, 0), (9, 1)])], "BadNeed", (2, 0)), ([(2, [(0, -4)])], "BadNeed", (2, 0)),
            ([(2, [(0, 1), (1, 1), (0, 2), (9, 9)])], "BadNeed", (2, 0)),
            ([(2, [(1, 1), (1, 1)])], "BadNeed", (2, 1)),
            ([(2, [(0, 1)]), (3, [(0, 1), (0, 1)]), (9, [])], "BadNeed", (3, 0)),
            ([(2, [(0, 0)]), (9, [])], "BadNeed", (2, 0)), ([(9, []), (2, [(0, 0)])], "NoEvent", (9,)),
            ([(4, []), (0, []), (2, [(0, 0)])], "NotAct", (0,)),
        ]:
            self.refuses(name, values, lambda: Table(WORKING, rows))

    def test_rows_of_no_event(self):
        for event in (-1, 5):
            self.refuses("NoEvent", (event,), lambda: TABLE.rows_of(event))


class TestAllows(Case):

    def test_a_row_without_needs_is_always_met(self):
        for now in (4, 5, 99):
            self.assertIs(TABLE.allows(RECORD, now, 2), True)
        self.assertIs(TABLE.allows(Record(WORKING, [-1, -1, -1]), 0, 2), True)

    def test_an_act_without_rows_is_never_allowed(self):
        for now in (5, 99):
            self.assertIs(TABLE.allows(RECORD, now, 4), False)

    def test_all_needs_of_one_row(self):
        # The box 2 hears of the events 0 and 1 at 2.
        for now, allowed in ((3, False), (5, False), (6, True), (7, True)):
            self.assertIs(TABLE.allows(RECORD, now, 3), allowed)
        for now, allowed in ((10, False), (11, True)):
            self.assertIs(Table(WORKING, [(3, [(0, 9)])]).allows(RECORD, now, 3), allowed)
        for now in (9, 99):
            self.assertIs(Table(WORKING, [(3, [(0, 1), (4, 1)])]).allows(RECORD, now, 3), False)

    def test_several_rows_of_one_act(self):
        table = Table(WORKING, [(3, [(4, 1)]), (3, [(1, 9)]), (3, [(0, 3)])])
        for now, allowed in ((4, False), (5, True)):
            self.assertIs(table.allows(RECORD, now, 3), allowed)

    def test_an_event_that_is_seen_but_of_which_the_box_did_not_hear(self):
        table = Table(WORKING, [(2, [(1, 1)]), (3, [(4, 1)])])
        for act in (2, 3):
            self.assertIs(table.allows(RECORD, 99, act), False)

    def test_an_event_that_is_not_seen(self):
        self.assertIs(Table(WORKING, [(4, [(2, 1)])]).allows(RECORD, 99, 4), False)

    def test_an_event_at_the_box_itself(self):
        table = Table(WORKING, [(2, [(0, 3)])])
        for now, allowed in ((4, False), (5, True)):
            self.assertIs(table.allows(RECORD, now, 2), allowed)

    def test_an_act_that_is_seen_is_judged_like_any_other(self):
        table = Table(WORKING, [(4, [(4, 3)])])
        for now, allowed in ((7, False), (8, True)):
            self.assertIs(table.allows(RECORD, now, 4), allowed)

    def test_it_does_not_ask_whether_the_record_is_possible(self):
        table = Table(WORKING, [(2, [(0, 9)])])
        self.assertIs(table.allows(SILENT, 9, 2), False)
        self.assertIs(table.allows(SILENT, 10, 2), True)

    def test_at_random(self):
        chance = random.Random(110)
        counts = [0, 0]
        for record in random_records(chance, 200, boxes=4):
            table = random_table(chance, record.working)
            for act in acts_of(record.working):
                least = max(0, record.height(record.working.box_of(act)))
                for now in (least, least + 1, least + 3):
                    expected = allows_by_hand(table, record, now, act)
                    counts[expected] += bool(table.rows_of(act) and [] not in table.rows_of(act))
                    self.assertIs(table.allows(record, now, act), expected)
        self.assertGreater(min(counts), 20)

    def test_the_errors_in_their_order(self):
        for record in (RECORD, SILENT):
            for act in (-1, 5):
                self.refuses("NoEvent", (act,), lambda: TABLE.allows(record, -1, act))
            for act in (0, 1):
                self.refuses("NotAct", (act,), lambda: TABLE.allows(record, -1, act))
            for act in (2, 3, 4):
                box = WORKING.box_of(act)
                for now in (-1, record.height(box) - 1, -10 ** 9):
                    self.refuses("BadReading", (box, now), lambda: TABLE.allows(record, now, act))
        self.refuses("BadReading", (0, -1), lambda: TABLE.allows(Record(WORKING, [-1, -1, -1]), -1, 2))
        self.assertIs(TABLE.allows(record=RECORD, now=4, act=2), True)


class TestWithWaits(Case):

    def test_the_number_of_the_act_is_added(self):
        table = TABLE.with_waits([100, 50, 7, 3, 0])
        self.assertEqual(table.rows(), [(3, [(0, 5), (1, 7)]), (2, []), (3, [(0, 12)]), (3, [(4, 4)])])
        self.assertIsInstance(table, Table)
        self.assertEqual(TABLE.rows(), Table(WORKING, ROWS).rows())
        self.assertEqual(TABLE.with_waits(extras=[0] * 5).rows(), TABLE.rows())

    def test_bad_waits(self):
        for extras, event in [
            ([], 0), ([0, 0, 0, 0], 4), ([0, -1, -1, 0, 0], 1), ([0, 0, 0, 0, -10 ** 9], 4), ([0, -1], 1),
            ([0, 0, 0, 0, 0, 0], 5), ([0] * 9, 5), ([0, 0, 0, -1, 0, 0], 3),
        ]:
            self.refuses("BadWait", (event,), lambda: TABLE.with_waits(extras))

    def test_more_waits_allow_no_more(self):
        chance = random.Random(111)
        for record in random_records(chance, 80):
            table = random_table(chance, record.working)
            extras = [chance.randint(0, 2) for _ in range(record.working.size)]
            for act in acts_of(record.working):
                now = max(0, record.height(record.working.box_of(act))) + 2
                expected = any(
                    allows_by_hand(Table(record.working, [(act, needs)]), record, now - extras[act], act)
                    for needs in table.rows_of(act)
                )
                self.assertIs(table.with_waits(extras).allows(record, now, act), expected)


class TestNewsTable(Case):

    def test_one_row_for_each_act(self):
        table = news_table(working=WORKING)
        self.assertEqual(table.rows(), [(2, [(1, 1)]), (3, [(0, 3), (1, 2)]), (4, [])])
        self.assertEqual(news_table(Working(LINE, [("free", 0)])).rows(), [])

    def test_at_random(self):
        chance = random.Random(112)
        for _ in range(30):
            working = random_working(chance, random_line(chance), 8, rings=True)
            self.assertEqual(news_table(working).rows(), [(act, working.demands(act)) for act in acts_of(working)])

    def test_it_is_always_safe(self):
        chance = random.Random(113)
        done = 0
        for world in random_worlds(chance, 300, rings=True):
            record = drive(world, news_table(world.working), 14)
            done += sum(bool(world.working.demands(act)) for act, _ in record.seen())
            self.assertTrue(kept_demands(record, world.settings()))
        self.assertGreater(done, 40)


class TestCopies(Case):

    def test_lists_that_are_passed_are_copied(self):
        needs = [(1, 4), (0, 2)]
        rows = [(3, needs)]
        table = Table(WORKING, rows)
        before = frozen(table_answers(table))
        needs.append((2, 1))
        rows.clear()
        self.assertEqual(frozen(table_answers(table)), before)

    def test_lists_that_are_passed_are_not_changed(self):
        rows, extras = [(3, [(1, 4), (0, 2)]), (2, [])], [1, 2, 3, 4, 5]
        Table(WORKING, rows).with_waits(extras)
        self.assertEqual((rows, extras), ([(3, [(1, 4), (0, 2)]), (2, [])], [1, 2, 3, 4, 5]))

    def test_nothing_is_changed_and_every_list_is_new(self):
        before = frozen(record_answers(RECORD))
        table = Table(WORKING, ROWS)
        self.same_after_spoiling(lambda: table_answers(table))
        self.same_after_spoiling(lambda: table_answers(table.with_waits([1] * 5)))
        self.same_after_spoiling(lambda: table_answers(news_table(WORKING)))
        self.same_after_spoiling(lambda: [table.allows(RECORD, 6, 3), table.rows()])
        self.assertEqual(frozen(record_answers(RECORD)), before)


if __name__ == "__main__":
    unittest.main()
