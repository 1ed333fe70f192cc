"""Point 64: what an act may count on if boxes hand over their books."""

import itertools
import random
import unittest

from helpers import Case, acts_of, frozen, impossible_records, possible_records, record_answers
from surerails.books import books_together
from surerails.continuing import continuation
from surerails.freest import refusal
from surerails.handing import fewest_books, refusal_with
from surerails.lines import Line
from surerails.records import Record
from surerails.workings import Working

# The boxes 0 to 2 tell the box 3 everything, but not soon; each of them sees an event, and the box 2 sees two.
LINE = Line(5, [(0, 3, 1, 40), (1, 3, 1, 40), (2, 3, 1, 40), (3, 0, 1, 40), (3, 1, 1, 40), (3, 2, 1, 40)],
            bounds=[(a, b, 0) for a in range(4) for b in range(4) if a != b])
WORKING = Working(LINE, [
    ("free", 0), ("free", 1), ("free", 2), ("free", 2), ("act", 3, [(0, 3)]), ("act", 3, [(0, 3), (2, 3)]),
    ("act", 3, []), ("act", 3, [(0, 3), (1, 30)]), ("act", 4, []), ("act", 3, [(3, 2)]), ("act", 0, [(0, 1)]),
    ("act", 0, []),
])
RECORD = Record(WORKING, [9, 9, 9, 9, -1], seen=[(0, 5), (1, 4), (2, 6), (3, 7), (11, 8)])


def others_of(record, act):
    box = record.working.box_of(act)
    return [other for other in range(record.line.size) if other != box]


def by_hand(record, act, boxes):
    """What refuses the act with these books, by the words of the point."""
    box = record.working.box_of(act)
    moments = [(k, record.height(k)) for k in sorted({box, *boxes}) if record.height(k) >= 0]
    return refusal(record.part(books_together(record, moments)), record.height(box), act)


def slow_fewest(record, act):
    """The least list of all those with the fewest boxes."""
    others = others_of(record, act)
    for count in range(len(others) + 1):
        for boxes in itertools.combinations(others, count):
            if by_hand(record, act, boxes) is None:
                return list(boxes)
    return None


def slow_letters(chance, count):
    """Records of boxes whose clocks are told to agree, and whose letters come any time."""
    pairs = list(itertools.permutations(range(4), 2))
    for _ in range(count):
        line = Line(4, [pair + (1, chance.choice([30, None])) for pair in pairs], bounds=[pair + (0,) for pair in pairs])
        events = [("free", chance.randrange(4)) for _ in range(6)]
        for _ in range(5):
            demanded = chance.sample(range(6), chance.randint(1, 4))
            events.append(("act", chance.randrange(4), [(event, chance.randint(1, 4)) for event in demanded]))
        came = [pair + (at, at + chance.randint(1, 30)) for pair in pairs for at in range(9)]
        seen = [(event, chance.randint(0, 6)) for event in range(6) if chance.random() < 0.9]
        letters = [letter for letter in came if letter[3] <= 8 and chance.random() < 0.3]
        yield Record(Working(line, events), [8] * 4, seen=seen, letters=letters)


def open_acts(record):
    working = record.working
    return [act for act in acts_of(working) if record.reading(act) is None and record.height(working.box_of(act)) >= 0]


class TestRefusalWith(Case):

    def check(self, record, act, boxes):
        """Tells whether the act is allowed with these books."""
        found = refusal_with(record, act, boxes)
        expected = by_hand(record, act, boxes)
        if expected is None:
            self.assertIsNone(found)
            return True
        event, settings = found
        self.assertIs(type(found), tuple)
        self.assertEqual(event, expected[0])
        box = record.working.box_of(act)
        moments = [(k, record.height(k)) for k in sorted({box, *boxes}) if record.height(k) >= 0]
        part = record.part(books_together(record, moments))
        self.placing(part, settings)
        hour = continuation(part, settings)[event]
        wait = dict(record.working.demands(act))[event]
        self.assertTrue(hour is None or hour + wait > settings[box] + record.height(box))
        return False

    def test_with_the_book_that_is_missing(self):
        for boxes, allowed in (([], False), ([1], False), ([0], True), ([2, 1], False), ([2, 0], True)):
            self.assertIs(self.check(RECORD, 4, boxes), allowed)
        for boxes, event in (([], 0), ([0], 2), ([2], 0), ([0, 1], 2)):
            self.assertEqual(refusal_with(RECORD, 5, boxes)[0], event)
        self.assertIsNone(refusal_with(record=RECORD, act=5, boxes=[2, 0]))

    def test_a_box_that_has_not_begun_the_box_itself_and_repeats(self):
        for boxes in ([4], [3], [3, 3, 4, 4]):
            self.assertIs(self.check(RECORD, 4, boxes), False)
            self.assertIs(self.check(RECORD, 4, boxes + [0, 0]), True)
            self.assertIs(self.check(RECORD, 6, boxes), True)

    def test_an_act_that_is_allowed_already(self):
        for boxes in ([], [0], [0, 1, 2, 3, 4]):
            self.assertIs(self.check(RECORD, 6, boxes), True)
            self.assertIs(self.check(RECORD, 10, boxes), True)

    def test_one_that_is_not_allowed_with_all_books(self):
        for boxes in ([], [1], [0, 1, 2, 4]):
            self.assertIs(self.check(RECORD, 7, boxes), False)

    def test_acts_of_the_very_moment_are_in_the_book(self):
        # It is the book that is asked, not the eve: what is done at the last moment stands in it.
        working = Working(Line(1, []), [("act", 0, []), ("ride", 0, 0, 1, 2), ("act", 0, [(0, 1)])])
        record = Record(working, [5], seen=[(0, 5)])
        self.assertIs(self.check(record, 2, []), False)
        self.assertEqual(refusal_with(record, 2, [])[0], 0)

    def test_a_book_holds_what_its_box_has_heard(self):
        record = Record(WORKING, [9, 9, 9, 9, -1], seen=[(0, 1)], letters=[(3, 1, 7, 8), (0, 3, 3, 5)])
        self.assertIs(self.check(record, 4, []), True)
        line = Line(3, [(0, 1, 1, 9), (1, 2, 1, 90), (2, 1, 1, 90), (1, 0, 1, 90)], bounds=[(0, 2, 0)])
        working = Working(line, [("free", 0), ("act", 2, [(0, 2)])])
        record = Record(working, [9, 9, 9], seen=[(0, 1)], letters=[(0, 1, at, at + 2) for at in range(6)])
        self.assertIs(self.check(record, 1, [1]), True)
        self.assertIs(self.check(record, 1, []), False)

    def test_a_box_that_has_just_begun(self):
        working = Working(LINE, [("free", 0), ("act", 3, [(0, 1)])])
        record = Record(working, [0, -1, -1, 1, -1], seen=[(0, 0)])
        self.assertIs(self.check(record, 1, []), False)
        self.assertIs(self.check(record, 1, [0]), True)
        self.assertEqual(fewest_books(record, 1), [0])
        early = Record(working, [0, -1, -1, 0, -1], seen=[(0, 0)])
        self.assertIs(self.check(early, 1, [0]), False)
        self.assertIsNone(fewest_books(early, 1))

    def test_at_random(self):
        chance = random.Random(260)
        counts = [0, 0]
        for record in possible_records(chance, 120, boxes=4):
            for act in open_acts(record):
                for _ in range(3):
                    boxes = [chance.randrange(record.line.size) for _ in range(chance.randint(0, 4))]
                    counts[self.check(record, act, boxes)] += 1
        self.assertGreater(min(counts), 20)

    def test_more_books_never_make_an_act_less_sure(self):
        chance = random.Random(261)
        for record in possible_records(chance, 60, boxes=4):
            for act in open_acts(record):
                boxes = [chance.randrange(record.line.size) for _ in range(2)]
                more = boxes + [chance.randrange(record.line.size)]
                if refusal_with(record, act, boxes) is None:
                    self.assertIsNone(refusal_with(record, act, more))


class TestFewestBooks(Case):

    def test_the_fewest_and_the_least_of_them(self):
        self.assertEqual(fewest_books(RECORD, 4), [0])
        self.assertEqual(fewest_books(RECORD, 5), [0, 2])
        self.assertEqual(fewest_books(RECORD, 9), [2])
        self.assertEqual(fewest_books(record=RECORD, act=9), [2])

    def test_one_of_two_that_are_enough(self):
        line = Line(5, LINE.wires() + [(1, 2, 1, 40), (1, 0, 1, 40)], bounds=LINE.bounds())
        working = Working(line, [("free", 1), ("act", 3, [(0, 2)])])
        letters = [(1, 2, at, at + 2) for at in range(7)] + [(1, 0, at, at + 2) for at in range(7)]
        record = Record(working, [9, 9, 9, 9, -1], seen=[(0, 5)], letters=letters)
        self.assertEqual(fewest_books(record, 1), [0])
        fewer = Record(working, [9, 9, 9, 9, -1], seen=[(0, 5)], letters=letters[:7])
        self.assertEqual(fewest_books(fewer, 1), [1])

    def test_an_act_that_is_allowed_already(self):
        self.assertEqual(fewest_books(RECORD, 6), [])
        self.assertEqual(fewest_books(RECORD, 10), [])

    def test_one_that_is_not_allowed_with_all_books(self):
        self.assertIsNone(fewest_books(RECORD, 7))

    def test_against_a_search_over_all_lists(self):
        chance = random.Random(262)
        counts = {}
        for record in possible_records(chance, 200, boxes=4, events=7):
            for act in open_acts(record):
                found = fewest_books(record, act)
                self.assertEqual(found, slow_fewest(record, act))
                count = None if found is None else len(found)
                counts[count] = counts.get(count, 0) + 1
        self.assertGreater(counts[0], 20)

    def test_against_a_search_where_letters_are_slow(self):
        chance = random.Random(264)
        counts = {None: 0, 0: 0, 1: 0, 2: 0, 3: 0}
        for record in slow_letters(chance, 150):
            for act in open_acts(record):
                found = fewest_books(record, act)
                self.assertEqual(found, slow_fewest(record, act))
                counts[None if found is None else len(found)] += 1
        self.assertGreater(min(counts.values()), 0, counts)


class TestErrors(Case):

    def test_in_their_order(self):
        silent = Record(WORKING, [90, 90, 90, 90, -1], seen=[(0, 5), (11, 8)])
        for record in (RECORD, silent):
            for act in (-1, 12):
                self.refuses("NoEvent", (act,), lambda: refusal_with(record, act, [9]))
                self.refuses("NoEvent", (act,), lambda: fewest_books(record, act))
            for act in (0, 3):
                self.refuses("NotAct", (act,), lambda: refusal_with(record, act, [9]))
                self.refuses("NotAct", (act,), lambda: fewest_books(record, act))
            self.refuses("AlreadyDone", (11,), lambda: refusal_with(record, 11, [9]))
            self.refuses("AlreadyDone", (11,), lambda: fewest_books(record, 11))
            self.refuses("NotOpen", (4,), lambda: refusal_with(record, 8, [9]))
            self.refuses("NotOpen", (4,), lambda: fewest_books(record, 8))
            for box in (-1, 5):
                self.refuses("NoBox", (box,), lambda: refusal_with(record, 4, [0, 4, box, 77]))
        for act in (4, 6):
            self.refuses_as_impossible(silent, lambda: refusal_with(silent, act, []))
            self.refuses_as_impossible(silent, lambda: fewest_books(silent, act))

    def test_records_that_are_not_possible(self):
        chance = random.Random(263)
        found = 0
        for record in impossible_records(chance, 700):
            for act in open_acts(record):
                found += 1
                self.refuses_as_impossible(record, lambda: refusal_with(record, act, [0]))
                self.refuses_as_impossible(record, lambda: fewest_books(record, act))
        self.assertGreater(found, 12)


class TestCopies(Case):

    def test_nothing_is_changed_and_every_list_is_new(self):
        before = frozen(record_answers(RECORD))
        boxes = [2, 4, 3, 2]
        self.same_after_spoiling(lambda: [refusal_with(RECORD, 5, boxes), fewest_books(RECORD, 5)])
        self.same_after_spoiling(lambda: [fewest_books(RECORD, act) for act in (4, 6, 7, 9, 10)])
        self.assertEqual(boxes, [2, 4, 3, 2])
        self.assertEqual(frozen(record_answers(RECORD)), before)


if __name__ == "__main__":
    unittest.main()
