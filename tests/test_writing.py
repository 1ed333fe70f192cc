"""Points 69 and 70: the written form of workings and records."""

import random
import unittest

from helpers import Case, frozen, random_line, random_records, random_working, record_answers, working_answers
from surerails.lines import Line
from surerails.reading import parse_record, parse_working
from surerails.records import Record
from surerails.workings import Working
from surerails.writing import format_record, format_working

LINE = Line(3, [(2, 1, 4, None), (1, 0, 1, 3), (0, 1, 1, 2)], bounds=[(2, 0, 0), (0, 2, 7)])
EVENTS = [
    ("free", 0), ("ride", 1, 0, 2, 4), ("act", 0, [(3, 2), (1, 1)]), ("ride", 1, 1, 12, None), ("act", 2, []),
]
WORKING = Working(LINE, EVENTS)
TEXT = """boxes 3
wire 0 1 1 2
wire 1 0 1 3
wire 2 1 4 never
bound 0 2 7
bound 2 0 0
events 5
free 0
ride 1 0 2 4
act 0 1 1 3 2
ride 1 1 12 never
act 2
"""
RECORD = Record(WORKING, [10, 4, -1], seen=[(1, 4), (0, 1), (2, 0)], letters=[(1, 0, 2, 9), (0, 1, 7, 3), (0, 1, 10, 0)])
REST = """heights 10 4 none
seen 0 1
seen 1 4
seen 2 0
letter 0 1 7 3
letter 0 1 10 0
letter 1 0 2 9
"""


def by_hand(working):
    """Point 70 to the letter."""
    rows = [("boxes", working.line.size)]
    rows += [("wire",) + wire for wire in working.line.wires()]
    rows += [("bound",) + bound for bound in working.line.bounds()]
    rows.append(("events", working.size))
    for event in working.events():
        if event[0] == "act":
            event = event[:2] + tuple(number for demand in event[2] for number in demand)
        rows.append(event)
    return "".join(" ".join("never" if word is None else str(word) for word in row) + "\n" for row in rows)


class TestFormatWorking(Case):

    def test_the_example_of_the_document(self):
        line = Line(2, [(0, 1, 1, 2), (1, 0, 1, 3)])
        working = Working(line, [("free", 0), ("ride", 1, 0, 2, 4), ("act", 0, [(1, 1)])])
        expected = "boxes 2\nwire 0 1 1 2\nwire 1 0 1 3\nevents 3\nfree 0\nride 1 0 2 4\nact 0 1 1\n"
        self.assertEqual(format_working(working), expected)
        self.assertEqual(format_working(working=working), expected)

    def test_all_kinds_of_lines(self):
        self.assertEqual(format_working(WORKING), TEXT)

    def test_nothing_but_a_box(self):
        self.assertEqual(format_working(Working(Line(1, []), [])), "boxes 1\nevents 0\n")

    def test_great_numbers_have_all_their_digits(self):
        line = Line(2, [(0, 1, 10 ** 9, 10 ** 20)], bounds=[(0, 1, 10 ** 15)])
        working = Working(line, [("free", 0), ("act", 1, [(0, 10 ** 30)])])
        self.assertEqual(format_working(working), (
            "boxes 2\nwire 0 1 1000000000 1" + "0" * 20 + "\nbound 0 1 1" + "0" * 15
            + "\nevents 2\nfree 0\nact 1 0 1" + "0" * 30 + "\n"
        ))

    def test_at_random(self):
        chance = random.Random(290)
        for _ in range(80):
            working = random_working(chance, random_line(chance), chance.randint(0, 8), rings=True)
            text = format_working(working)
            self.assertEqual(text, by_hand(working))
            again = parse_working(text)
            self.assertEqual(frozen(working_answers(again)), frozen(working_answers(working)))
            self.assertEqual(format_working(again), text)


class TestFormatRecord(Case):

    def test_all_kinds_of_lines(self):
        self.assertEqual(format_record(RECORD), TEXT + REST)
        self.assertEqual(format_record(record=RECORD), TEXT + REST)

    def test_a_record_without_a_reading(self):
        record = Record(Working(Line(2, []), []), [-1, -1])
        self.assertEqual(format_record(record), "boxes 2\nevents 0\nheights none none\n")
        self.assertEqual(format_record(Record(WORKING, [0, -1, 0])), TEXT + "heights 0 none 0\n")

    def test_at_random(self):
        chance = random.Random(291)
        for record in random_records(chance, 120):
            text = format_record(record)
            rows = [("seen",) + pair for pair in record.seen()] + [("letter",) + letter for letter in record.letters()]
            heights = ["none" if height < 0 else str(height) for height in record.heights()]
            lines = [" ".join(["heights"] + heights)] + [" ".join(str(word) for word in row) for row in rows]
            self.assertEqual(text, by_hand(record.working) + "".join(line + "\n" for line in lines))
            again = parse_record(text)
            self.assertEqual(frozen(record_answers(again)), frozen(record_answers(record)))
            self.assertEqual(format_record(again), text)


class TestCopies(Case):

    def test_nothing_is_changed(self):
        before = frozen(record_answers(RECORD))
        self.same_after_spoiling(lambda: [format_record(RECORD), format_working(WORKING)])
        self.assertEqual(frozen(record_answers(RECORD)), before)


if __name__ == "__main__":
    unittest.main()
