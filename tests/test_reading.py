"""Points 69 and 71: reading workings and records from their written form."""

import random
import unittest

from helpers import Case, frozen, random_records, record_answers, working_answers
from surerails import errors
from surerails.lines import Line
from surerails.reading import parse_record, parse_working
from surerails.records import Record
from surerails.workings import Working
from surerails.writing import format_record, format_working

WORKING = [
    "boxes 3", "wire 0 1 1 2", "wire 1 0 1 3", "wire 2 1 4 never", "bound 0 2 7", "bound 2 0 0", "events 5",
    "free 0", "ride 1 0 2 4", "act 0 1 1 3 2", "ride 1 1 12 never", "act 2",
]
RECORD = WORKING + [
    "heights 10 4 none", "seen 0 1", "seen 1 4", "letter 0 1 7 3", "letter 0 1 10 0", "letter 1 0 2 9",
]


def text_of(lines):
    return "".join(line + "\n" for line in lines)


class Model:
    """A slow reader of lines, by the words of points 69 to 71: tells the number of the first bad line, or None."""

    def __init__(self, text, record):
        self.lines = text.split("\n")
        self.whole = self.lines.pop() == ""
        if not self.whole:
            self.lines.append("")
        self.at = 0
        self.record = record

    def is_number(self, word, digits=13):
        return 0 < len(word) <= digits and set(word) <= set("0123456789") and (word == "0" or word[0] != "0")

    def bad(self):
        """Goes over the text by states; each state is the list of kinds of lines that may come next."""
        state, size, left, before = ["boxes"], None, None, None
        for at, line in enumerate(self.lines, 1):
            words = line.split(" ")
            kind = words[0]
            if kind not in state or "" in words or not self.fits(kind, words[1:], size):
                return at
            if before is not None and before.split(" ")[0] == kind and self.key(before) is not None:
                if self.key(line) <= self.key(before):
                    return at
            before = line
            if kind == "boxes":
                size, state = int(words[1]), ["wire", "bound", "events"]
            elif kind == "bound":
                state = ["bound", "events"]
            elif kind == "letter":
                state = ["letter"]
            elif kind in ("heights", "seen"):
                state = ["seen", "letter"]
            elif kind != "wire":
                left = int(words[1]) if kind == "events" else left - 1
                state = ["free", "ride", "act"] if left else (["heights"] if self.record else [])
        ends = [["seen", "letter"], ["letter"]] if self.record else [[]]
        return None if state in ends else len(self.lines) + 1

    def key(self, line):
        words = line.split(" ")
        count = {"wire": 2, "bound": 2, "seen": 1, "letter": 3}.get(words[0])
        return None if count is None else [int(word) for word in words[1:count + 1]]

    def fits(self, kind, words, size):
        if kind in ("boxes", "events"):
            return len(words) == 1 and self.is_number(words[0], 3)
        if kind == "heights":
            return len(words) == size and all(word == "none" or self.is_number(word) for word in words)
        if kind == "act":
            events = [int(word) for word in words[1::2]] if all(map(self.is_number, words)) else [1, 0]
            return len(words) % 2 == 1 and sorted(set(events)) == events
        counts = {"wire": 4, "ride": 4, "bound": 3, "free": 1, "seen": 2, "letter": 4}
        if kind in ("wire", "ride") and words and words[-1] == "never":
            words = words[:-1] + ["0"]
        return len(words) == counts[kind] and all(map(self.is_number, words))


class TestParse(Case):

    def test_a_working(self):
        working = parse_working(text=text_of(WORKING))
        line = Line(3, [(0, 1, 1, 2), (1, 0, 1, 3), (2, 1, 4, None)], bounds=[(0, 2, 7), (2, 0, 0)])
        expected = Working(line, [
            ("free", 0), ("ride", 1, 0, 2, 4), ("act", 0, [(1, 1), (3, 2)]), ("ride", 1, 1, 12, None), ("act", 2, []),
        ])
        self.assertEqual(frozen(working_answers(working)), frozen(working_answers(expected)))
        self.assertEqual(format_working(working), text_of(WORKING))

    def test_a_record(self):
        record = parse_record(text=text_of(RECORD))
        letters = [(0, 1, 7, 3), (0, 1, 10, 0), (1, 0, 2, 9)]
        expected = Record(parse_working(text_of(WORKING)), [10, 4, -1], seen=[(0, 1), (1, 4)], letters=letters)
        self.assertEqual(frozen(record_answers(record)), frozen(record_answers(expected)))
        self.assertEqual(format_record(record), text_of(RECORD))

    def test_the_shortest_texts(self):
        self.assertEqual(parse_working("boxes 1\nevents 0\n").events(), [])
        self.assertEqual(parse_record("boxes 1\nevents 0\nheights none\n").heights(), [-1])
        self.assertEqual(parse_record("boxes 2\nevents 0\nheights 0 none\n").heights(), [0, -1])

    def test_numbers_of_13_digits(self):
        great = "9" * 13
        working = parse_working(f"boxes 2\nwire 0 1 {great} never\nbound 0 1 {great}\nevents 1\nfree 0\n")
        self.assertEqual(working.line.bounds(), [(0, 1, 10 ** 13 - 1)])
        self.assertEqual(working.line.wires(), [(0, 1, 10 ** 13 - 1, None)])
        record = parse_record(f"boxes 1\nevents 0\nheights {great}\n")
        self.assertEqual(record.heights(), [10 ** 13 - 1])


class TestBadLines(Case):

    def bad(self, lines, number, *, record=False):
        """The lines cannot be read, because of the line with this number."""
        text = lines if isinstance(lines, str) else text_of(lines)
        self.refuses("BadText", (number,), lambda: (parse_record if record else parse_working)(text))
        self.assertEqual(Model(text, record).bad(), number)

    def changed(self, number, line, *, record=False):
        """The line with this number is replaced, and cannot stand there."""
        lines = list(RECORD if record else WORKING)
        lines[number - 1] = line
        self.bad(lines, number, record=record)

    def test_no_line_at_all(self):
        for record in (False, True):
            self.bad("", 1, record=record)
            self.bad("\n", 1, record=record)
            self.bad("\n" + text_of(RECORD), 1, record=record)

    def test_a_last_line_without_its_newline(self):
        self.bad(text_of(WORKING)[:-1], 12)
        self.bad(text_of(RECORD)[:-1], 18, record=True)
        self.bad(text_of(WORKING) + " ", 13)
        self.bad(text_of(WORKING) + "act 2", 13)
        self.bad("boxes 1", 1)
        self.bad(text_of(RECORD) + "letter 9 9 9 9", 19, record=True)

    def test_an_empty_line(self):
        for at in range(len(RECORD) + 1):
            self.bad(RECORD[:at] + [""] + RECORD[at:], at + 1, record=True)
        for at in range(len(WORKING) + 1):
            self.bad(WORKING[:at] + [""] + WORKING[at:], at + 1)

    def test_a_missing_line_at_the_end(self):
        for at in range(len(WORKING)):
            self.bad(WORKING[:at], at + 1)
        for at in range(len(WORKING) + 1):
            self.bad(WORKING[:at], at + 1, record=True)
        self.assertEqual(parse_record(text_of(RECORD[:13])).letters(), [])

    def test_a_line_too_many(self):
        for line in WORKING + ["heights 1 1 1", "seen 0 1", "letter 0 1 2 3", "rubbish"]:
            self.bad(WORKING + [line], 13)
        for line in WORKING + ["heights 1 1 1", "seen 5 1", "rubbish"]:
            self.bad(RECORD + [line], 19, record=True)

    def test_lines_in_the_wrong_place(self):
        for at, line in ((2, "boxes 3"), (3, "bound 0 1 1"), (2, "events 0"), (6, "wire 2 0 1 1"), (8, "wire 2 0 1 1")):
            lines = WORKING[:at - 1] + [line] + WORKING[at - 1:]
            self.bad(lines, at + (line in ("bound 0 1 1", "events 0")))
        self.bad(RECORD[:14] + RECORD[15:17] + [RECORD[14]] + RECORD[17:], 17, record=True)
        self.bad(WORKING[:-1] + ["heights 1 1 1"], 12, record=True)
        self.bad(WORKING + ["seen 0 1"], 13, record=True)
        self.bad(RECORD[:13] + ["heights 1 1 1"], 14, record=True)

    def test_spaces(self):
        for line in ("wire 0 1  1 2", "wire 0 1 1 2 ", " wire 0 1 1 2", "wire  0 1 1 2", " ", "wire 0 1 1\t2"):
            self.changed(2, line)

    def test_words_too_few_or_too_many(self):
        for number, lines in (
            (1, ("boxes", "boxes 3 3")), (2, ("wire 0 1 1", "wire 0 1 1 2 3", "wire")),
            (5, ("bound 0 2", "bound 0 2 7 7")), (7, ("events", "events 5 5")), (8, ("free", "free 0 0")),
            (9, ("ride 1 0 2", "ride 1 0 2 4 4", "ride 1 0 4")), (10, ("act", "act 0 1", "act 0 1 1 3")),
            (13, ("heights 1 1", "heights 1 1 1 1", "heights")), (14, ("seen 0", "seen 0 1 1")),
            (16, ("letter 0 1 7", "letter 0 1 7 3 3")),
        ):
            for line in lines:
                self.changed(number, line, record=True)
                if number < 13:
                    self.changed(number, line)

    def test_words_that_are_no_numbers(self):
        for word in ("01", "00", "-1", "+1", "1.0", "x", "1" * 14, "0" * 14, "never", "none", "1_0", "0x1"):
            for number, line in (
                (1, f"boxes {word}"), (2, f"wire {word} 1 1 2"), (2, f"wire 0 {word} 1 2"), (2, f"wire 0 1 {word} 2"),
                (5, f"bound {word} 2 7"), (5, f"bound 0 {word} 7"), (5, f"bound 0 2 {word}"), (7, f"events {word}"),
                (8, f"free {word}"), (9, f"ride {word} 0 2 4"), (9, f"ride 1 {word} 2 4"), (9, f"ride 1 0 {word} 4"),
                (10, f"act {word} 1 1 3 2"), (10, f"act 0 {word} 1 3 2"), (10, f"act 0 1 {word} 3 2"),
                (14, f"seen {word} 1"), (14, f"seen 0 {word}"), (16, f"letter {word} 1 7 3"),
                (16, f"letter 0 {word} 7 3"), (16, f"letter 0 1 {word} 3"), (16, f"letter 0 1 7 {word}"),
            ):
                self.changed(number, line, record=True)

    def test_the_words_never_and_none_stand_in_their_places_alone(self):
        for word in ("none", "Never", "nevermore", "01"):
            self.changed(2, f"wire 0 1 1 {word}")
            self.changed(9, f"ride 1 0 2 {word}")
        for word in ("never", "None", "-1", "01", "1" * 14):
            for heights in (f"{word} 4 none", f"10 {word} none", f"10 4 {word}"):
                self.changed(13, f"heights {heights}", record=True)
        lines = WORKING[:1] + ["wire 0 1 1 never"] + WORKING[2:]
        self.assertEqual(Model(text_of(lines), False).bad(), None)
        self.assertEqual(parse_record(text_of(WORKING + ["heights none none none"])).heights(), [-1, -1, -1])

    def test_counts_have_at_most_three_digits(self):
        self.changed(1, "boxes 1000")
        self.changed(7, "events 1000")
        self.assertEqual(parse_working("boxes 999\nevents 0\n").line.size, 999)
        self.assertEqual(parse_working("boxes 1\nevents 999\n" + "free 0\n" * 999).size, 999)
        self.bad("boxes 1\nevents 999\n" + "free 0\n" * 998, 1001)

    def test_lines_that_are_not_ascending_or_are_there_twice(self):
        for number, line in (
            (3, "wire 0 1 5 6"), (3, "wire 0 0 5 6"), (4, "wire 0 2 1 1"), (4, "wire 1 0 9 9"), (6, "bound 0 2 8"),
            (6, "bound 0 1 8"), (15, "seen 0 2"), (17, "letter 0 1 7 4"), (17, "letter 0 1 6 9"),
            (18, "letter 0 1 10 1"), (18, "letter 0 0 11 1"),
        ):
            self.changed(number, line, record=True)
        self.bad(RECORD[:14] + ["seen 1 4", "seen 0 1"], 16, record=True)
        # The first line of a kind follows none of its own kind.
        lines = ["boxes 2", "wire 1 0 1 1", "bound 0 1 1", "events 1", "act 0", "heights 9 9", "seen 0 0", "letter 1 0 1 2"]
        self.assertEqual(parse_record(text_of(lines)).letters(), [(1, 0, 1, 2)])

    def test_acts_whose_events_are_not_ascending(self):
        for line in ("act 0 3 1 1 2", "act 0 1 1 1 2", "act 0 1 1 3 2 2 1"):
            self.changed(10, line)
        self.assertEqual(parse_working(text_of(WORKING[:9] + ["act 0 0 9 3 1 4 2"] + WORKING[10:])).demands(2), [
            (0, 9), (3, 1), (4, 2),
        ])

    def test_exactly_so_many_events(self):
        self.bad(WORKING[:6] + ["events 4"] + WORKING[7:], 12)
        self.bad(WORKING[:6] + ["events 6"] + WORKING[7:], 13)
        self.bad(RECORD[:6] + ["events 6"] + RECORD[7:], 13, record=True)
        self.bad(RECORD[:6] + ["events 0"] + RECORD[7:], 8, record=True)

    def test_the_first_bad_line_is_told(self):
        self.bad(["boxes 3", "wire 0 1 2", "rubbish", ""], 2)
        self.bad(["boxes 3", "wire 0 1 2 3", "wire 0 1 2 3", "rubbish"], 3)

    def test_spoilt_texts(self):
        chance = random.Random(300)
        counts = [0, 0]
        signs = "0123456789 \n nevrnoactwis"
        for record in random_records(chance, 150):
            for whole in (False, True):
                text = format_record(record) if whole else format_working(record.working)
                for _ in range(6):
                    at = chance.randrange(len(text) + 1)
                    spoilt = text[:at] + chance.choice(["", chance.choice(signs), " 1"]) + text[at + chance.randint(0, 2):]
                    counts[self.same_as_the_model(spoilt, whole)] += 1
        self.assertGreater(min(counts), 50)

    def test_texts_of_shuffled_lines(self):
        chance = random.Random(301)
        counts = [0, 0]
        for record in random_records(chance, 100):
            lines = format_record(record).split("\n")[:-1]
            for _ in range(4):
                moved = list(lines)
                line = moved.pop(chance.randrange(len(moved)))
                moved.insert(chance.choice([len(moved), chance.randrange(len(moved) + 1)]), line)
                counts[self.same_as_the_model(text_of(moved), True)] += 1
        self.assertGreater(min(counts), 20)

    def same_as_the_model(self, text, whole):
        """Tells whether the text has a bad line; the program and the slow reader agree."""
        number = Model(text, whole).bad()
        parse = parse_record if whole else parse_working
        if number is not None:
            self.refuses("BadText", (number,), lambda: parse(text))
            return True
        try:
            answer = parse(text)
        except errors.RailsError as error:
            self.assertNotIsInstance(error, errors.BadText)
        else:
            self.assertEqual((format_record if whole else format_working)(answer), text)
        return False


class TestBadValues(Case):

    def test_they_are_told_only_after_all_lines(self):
        for number, line in ((1, "boxes 0"), (2, "wire 0 9 1 1"), (5, "bound 0 0 1"), (8, "free 3"), (10, "act 0 5 1")):
            lines = list(WORKING)
            lines[number - 1] = line
            self.refuses("BadText", (13,), lambda: parse_working(text_of(lines + ["act 2"])))
            self.refuses("BadText", (12,), lambda: parse_working(text_of(lines)[:-1]))
            self.refuses("BadText", (13,), lambda: parse_record(text_of(lines)))
            with self.assertRaises(errors.RailsError) as caught:
                parse_working(text_of(lines))
            self.assertNotIsInstance(caught.exception, errors.BadText)

    def check(self, changes, name, values, *, record=False):
        lines = list(RECORD if record else WORKING)
        for number, line in changes.items():
            lines[number - 1] = line
        self.refuses(name, values, lambda: (parse_record if record else parse_working)(text_of(lines)))

    def test_the_errors_of_the_line(self):
        self.refuses("BadSize", (0,), lambda: parse_working("boxes 0\nwire 0 1 0 0\nevents 0\n"))
        self.refuses("BadSize", (0,), lambda: parse_record("boxes 0\nevents 0\nheights\n"))
        self.check({2: "wire 0 3 0 0"}, "NoBox", (3,))
        self.check({2: "wire 0 0 1 1", 8: "free 9"}, "BadWire", (0, 0))
        self.check({2: "wire 0 1 0 5"}, "BadWire", (0, 1))
        self.check({4: "wire 2 1 5 4", 5: "bound 0 9 1"}, "BadWire", (2, 1))
        self.check({5: "bound 0 3 1"}, "NoBox", (3,))
        self.check({5: "bound 1 1 1"}, "BadBound", (1, 1))

    def test_the_errors_of_the_working(self):
        self.check({8: "free 3", 9: "ride 1 9 2 4"}, "NoBox", (3,))
        self.check({9: "ride 1 1 2 4"}, "NoEvent", (1,))
        self.check({9: "ride 1 0 0 4"}, "BadRide", (1,))
        self.check({9: "ride 2 0 2 4"}, "SlowWire", (1,))
        self.check({10: "act 0 1 1 5 2"}, "NoEvent", (5,))
        self.check({10: "act 0 1 0 3 2"}, "BadDemand", (2, 1))
        self.check({10: "act 0 1 0 3 2", 13: "heights 1 none none"}, "BadDemand", (2, 1), record=True)

    def test_the_errors_of_the_record(self):
        self.check({14: "seen 0 11"}, "BadReading", (0, 11), record=True)
        self.check({15: "seen 5 1"}, "NoEvent", (5,), record=True)
        self.check({14: "seen 0 1", 15: "seen 3 1"}, "CauseMissing", (3,), record=True)
        self.check({18: "letter 2 0 1 1"}, "NoWire", (2, 0), record=True)
        self.check({18: "letter 3 0 1 1"}, "NoBox", (3,), record=True)
        self.check({18: "letter 2 1 1 1"}, "BadReading", (2, 1), record=True)
        self.check({17: "letter 0 1 11 0", 18: "letter 1 9 1 1"}, "BadReading", (0, 11), record=True)
        self.check({13: "heights none 4 none"}, "BadReading", (0, 1), record=True)


class TestCopies(Case):

    def test_what_is_read_is_new_each_time(self):
        text = text_of(RECORD)
        self.same_after_spoiling(lambda: record_answers(parse_record(text)))
        self.same_after_spoiling(lambda: working_answers(parse_working(text_of(WORKING))))
        record = parse_record(text)
        self.same_after_spoiling(lambda: record_answers(record))


if __name__ == "__main__":
    unittest.main()
