"""Points 37 to 39, 41 and 42: how old an event surely is, with certificates and other runs."""

import random
import unittest

from helpers import Case, frozen, impossible_records, least_over, possible_records, record_answers, small_placings
from surerails.books import closure_of
from surerails.bounds import bounds_of
from surerails.continuing import continuation
from surerails.cuts import Cut
from surerails.knowing import is_certificate, sure_age, sure_from, surely
from surerails.lines import Line
from surerails.records import Record
from surerails.workings import Working, bounded_chain

LINE = Line(2, [(0, 1, 1, 2), (1, 0, 1, 3)])
WORKING = Working(LINE, [("free", 0), ("ride", 1, 0, 2, 4), ("act", 0, [(1, 1)]), ("ride", 1, 1, 1, None)])
# The setting of the box 1 minus that of the box 0 is from -1 to 2.
EXAMPLE = Record(WORKING, [1, -1], seen=[(0, 1)])
SILENT = Record(WORKING, [9, 9], seen=[(0, 1)])
# The setting of the box 0 minus that of the box 1 is at most 3; there is no other bound.
ONE_WAY = Record(
    Working(Line(2, [(0, 1, 2, None)]), [("free", 0), ("free", 1)]), [9, 9], seen=[(0, 5), (1, 6)],
    letters=[(0, 1, 4, 9)])
ARGUMENTS = ("record", "box", "now", "event", "hours")


class KnowingCase(Case):

    def certificate(self, record, box, now, event, hours, certificate):
        """Point 39 to the letter."""
        self.assertIs(type(certificate), tuple)
        ancestor, high, way = certificate
        self.assertIn((ancestor, high), bounded_chain(record.working, event))
        self.assertIsNotNone(record.reading(ancestor))
        length = self.length_of_way(record, way, box, record.working.box_of(ancestor))
        self.assertLessEqual(length + record.reading(ancestor) + high + hours, now)

    def check(self, record, box, now, event, hours, sure):
        """The event is surely so old or not, as the boolean says, and the answer shows it."""
        answer = surely(record, box, now, event, hours)
        self.assertIs(type(answer), tuple)
        self.assertEqual(answer[0], "sure" if sure else "open")
        if sure:
            self.certificate(record, box, now, event, hours, answer[1])
            self.assertIs(is_certificate(record, box, now, event, hours, answer[1]), True)
        else:
            self.placing(record, answer[1])
            hour = continuation(record, answer[1])[event]
            self.assertTrue(hour is None or hour + hours > answer[1][box] + now)

    def check_age(self, record, box, now, event, age):
        self.assertEqual(sure_age(record, box, now, event), age)
        for hours in (-10 ** 9, -7, 0, 7, 10 ** 9) if age is None else (age - 9, age, age + 1, age + 9):
            self.check(record, box, now, event, hours, age is not None and hours <= age)
        self.check_from(record, box, event, 0 if age is None else age, None if age is None else now)

    def check_from(self, record, box, event, hours, since):
        """From the reading since on the event is surely so old, but never before."""
        least = max(0, record.height(box))
        found = sure_from(record, box, event, hours)
        self.assertEqual(found, None if since is None else max(least, since))
        for now in {least, least + 1, least + 40, found or least, (found or least) + 1, max(least, (found or 1) - 1)}:
            self.check(record, box, now, event, hours, found is not None and now >= found)


class TestSurely(KnowingCase):

    def test_what_the_box_has_seen_itself(self):
        for now in (1, 2, 9):
            self.check_age(EXAMPLE, 0, now, 0, now - 1)

    def test_what_another_box_has_seen(self):
        # The clock of the box 1 shows 0 at most 2 hours later.
        for now in (0, 1, 9):
            self.check_age(ONE_WAY, 1, now + 9, 0, now + 9 - 5 - 3)
            self.check_age(EXAMPLE, 1, now, 0, now - 1 - 1)

    def test_a_ride_that_is_still_out(self):
        for now in (1, 4, 9):
            self.check_age(EXAMPLE, 0, now, 1, now - 5)
            self.check_age(EXAMPLE, 1, now, 1, now - 6)

    def test_negative_hours(self):
        self.check(EXAMPLE, 0, 1, 1, -4, True)
        self.check(EXAMPLE, 0, 1, 1, -3, False)
        self.check(EXAMPLE, 0, 1, 1, -10 ** 9, True)

    def test_an_event_whose_chain_has_no_seen_ancestor(self):
        for event in (2, 3):
            for box in (0, 1):
                self.check_age(EXAMPLE, box, 5, event, None)
        unseen = Record(WORKING, [1, -1])
        for event in range(4):
            self.check_age(unseen, 0, 5, event, None)

    def test_no_way_of_bounds_to_the_ancestor(self):
        self.check_age(ONE_WAY, 0, 9, 1, None)
        self.check_age(ONE_WAY, 0, 9, 0, 4)
        self.check_age(ONE_WAY, 1, 9, 1, 3)

    def test_no_reading_before_the_first_one(self):
        for hours in (-10 ** 9, -9, -3, -2):
            self.assertEqual(sure_from(EXAMPLE, 1, 0, hours), 0)
            self.check_from(EXAMPLE, 1, 0, hours, 2 + hours)
        self.assertEqual(sure_from(EXAMPLE, 1, 0, -1), 1)
        self.assertEqual(sure_from(EXAMPLE, 0, 0, -9), 1)

    def test_the_first_seen_ancestor_of_several(self):
        working = Working(LINE, [("free", 0), ("ride", 1, 0, 2, 9), ("ride", 1, 1, 1, 3)])
        record = Record(working, [2, 3], seen=[(0, 0), (1, 2)], letters=[(0, 1, 0, 1), (0, 1, 1, 2)])
        self.check_age(record, 1, 3, 2, -2)

    def test_the_arguments_by_name(self):
        words = dict(zip(ARGUMENTS, (EXAMPLE, 0, 1, 0, 0)))
        self.assertEqual(surely(**words), ("sure", (0, 0, [])))
        self.assertIs(is_certificate(**words, certificate=(0, 0, [])), True)
        self.assertEqual(sure_age(record=EXAMPLE, box=0, now=1, event=0), 0)
        self.assertEqual(sure_from(record=EXAMPLE, box=0, event=0, hours=3), 4)

    def test_against_all_small_settings(self):
        chance = random.Random(70)
        counts = [0, 0]
        for record in possible_records(chance, 120):
            if record.working.size == 0:
                continue
            rows = small_placings(record, width=24)
            for event in chance.sample(range(record.working.size), min(3, record.working.size)):
                box = chance.randrange(record.line.size)
                now = max(0, record.height(box)) + chance.choice([0, 0, 1, 3])
                expected = None
                if continuation(record, list(rows[0]))[event] is not None:
                    expected = least_over(
                        rows, lambda row: row[box] + now - continuation(record, list(row))[event])
                counts[expected is None] += 1
                self.check_age(record, box, now, event, expected)
        self.assertGreater(min(counts), 50)

    def test_what_is_sure_stays_sure(self):
        chance = random.Random(71)
        found = 0
        for record in possible_records(chance, 100):
            cut = closure_of(record, Cut([chance.randint(-1, height) for height in record.heights()]))
            part = record.part(cut)
            for event in range(record.working.size):
                for box in range(record.line.size):
                    now = max(0, record.height(box))
                    before = sure_age(part, box, max(0, part.height(box)), event)
                    if before is not None:
                        found += 1
                        after = sure_age(record, box, now, event)
                        self.assertGreaterEqual(after, before + now - max(0, part.height(box)))
        self.assertGreater(found, 50)

    def test_the_errors_in_their_order(self):
        calls = (
            surely, sure_age, lambda *words: is_certificate(*words, (0, 0, [])),
        )
        for record in (EXAMPLE, SILENT):
            for call in calls:
                rest = () if call is sure_age else (0,)
                for box in (-1, 2):
                    self.refuses("NoBox", (box,), lambda: call(record, box, -1, 99, *rest))
                height = record.height(0)
                for now in (-1, height - 1, -10 ** 9):
                    self.refuses("BadReading", (0, now), lambda: call(record, 0, now, 99, *rest))
                for event in (-1, 4):
                    self.refuses("NoEvent", (event,), lambda: call(record, 0, height, event, *rest))
            for box in (-1, 2):
                self.refuses("NoBox", (box,), lambda: sure_from(record, box, 99, 0))
            for event in (-1, 4):
                self.refuses("NoEvent", (event,), lambda: sure_from(record, 1, event, 0))
        self.refuses("BadReading", (1, -1), lambda: surely(EXAMPLE, 1, -1, 0, 0))
        for event in range(4):
            self.refuses_as_impossible(SILENT, lambda: surely(SILENT, 0, 9, event, 0))
            self.refuses_as_impossible(SILENT, lambda: sure_age(SILENT, 0, 9, event))
            self.refuses_as_impossible(SILENT, lambda: sure_from(SILENT, 0, event, 0))


class TestCertificates(KnowingCase):

    WAY = [(0, 1, 1, ("silence", 1, 0, 0))]

    def test_certificates(self):
        for now, event, hours, certificate in [
            (1, 0, -1, (0, 0, self.WAY)), (2, 0, 0, (0, 0, self.WAY)), (9, 0, -5, (0, 0, self.WAY)),
            (6, 1, 0, (0, 4, self.WAY)), (0, 1, -6, (0, 4, self.WAY)),
        ]:
            self.assertIs(is_certificate(EXAMPLE, 1, now, event, hours, certificate), True)
        self.assertIs(is_certificate(EXAMPLE, 0, 1, 0, 0, (0, 0, [])), True)

    def test_the_number_decides(self):
        for hours in (-3, 0, 5):
            self.assertIs(is_certificate(EXAMPLE, 1, 6 + 3 + hours, 1, hours + 3, (0, 4, self.WAY)), True)
            self.assertIs(is_certificate(EXAMPLE, 1, 6 + 3 + hours, 1, hours + 4, (0, 4, self.WAY)), False)

    def test_what_is_none(self):
        other = [(1, 0, 2, ("silence", 0, 1, 0))]
        for certificate in [
            (1, 0, self.WAY), (0, 0, self.WAY), (0, 5, self.WAY), (-1, 4, self.WAY), (4, 4, self.WAY),
            (10 ** 9, 4, self.WAY), (2, 0, self.WAY), (0, 4, []), (0, 4, other), (0, 4, self.WAY + other),
            (0, 4, [(0, 1, 0, ("silence", 1, 0, 0))]), (0, 4, [(0, 1, 1, ("silence", 1, 0, 1))]),
        ]:
            self.assertIs(is_certificate(EXAMPLE, 1, 99, 1, 0, certificate), False, certificate)
        self.assertIs(is_certificate(EXAMPLE, 1, 99, 2, 0, (0, 4, self.WAY)), False)
        self.assertIs(is_certificate(EXAMPLE, 1, 99, 3, 0, (0, 4, self.WAY)), False)

    def test_a_way_may_be_longer_than_it_must_be(self):
        way = self.WAY + [(1, 0, 2, ("silence", 0, 1, 0))] + self.WAY
        self.assertIs(is_certificate(EXAMPLE, 1, 9, 1, 0, (0, 4, way)), True)
        self.assertIs(is_certificate(EXAMPLE, 1, 8, 1, 0, (0, 4, way)), False)
        told = Record(Working(Line(2, [], bounds=[(0, 1, 5)]), [("free", 0)]), [0, 0], seen=[(0, 0)])
        self.assertIs(is_certificate(told, 1, 5, 0, 0, (0, 0, [(0, 1, 5, ("told", 0, 1))])), True)

    def test_any_seen_ancestor_will_do(self):
        working = Working(LINE, [("free", 0), ("ride", 0, 0, 1, 9), ("ride", 0, 1, 1, 3)])
        record = Record(working, [8, 0], seen=[(0, 0), (1, 2)], letters=[(1, 0, 0, 3)])
        bound = (0, 0, 7, ("due", 1))
        self.assertIn(bound, bounds_of(record))
        for certificate, least in [((1, 3, []), 5), ((0, 12, []), 12), ((0, 12, [bound]), 19)]:
            self.assertIs(is_certificate(record, 0, 20, 2, 20 - least, certificate), True)
            self.assertIs(is_certificate(record, 0, 20, 2, 21 - least, certificate), False)

    def test_it_does_not_raise_impossible(self):
        self.assertIs(is_certificate(SILENT, 0, 9, 0, 8, (0, 0, [])), True)
        self.assertIs(is_certificate(SILENT, 0, 9, 0, 9, (0, 0, [])), False)
        for record in impossible_records(random.Random(72), 40):
            if record.working.size:
                certificate = (0, 0, [])
                self.assertIn(is_certificate(record, 0, 99, 0, 0, certificate), (True, False))


class TestCopies(KnowingCase):

    def test_nothing_is_changed_and_every_list_is_new(self):
        before = frozen([record_answers(EXAMPLE), record_answers(ONE_WAY)])
        way = [(0, 1, 1, ("silence", 1, 0, 0))]
        is_certificate(EXAMPLE, 1, 6, 1, 0, (0, 4, way))
        self.assertEqual(way, [(0, 1, 1, ("silence", 1, 0, 0))])
        self.same_after_spoiling(lambda: [
            surely(EXAMPLE, 1, 6, 1, 0), surely(EXAMPLE, 1, 6, 1, 1), surely(EXAMPLE, 0, 6, 2, 1),
            surely(EXAMPLE, 0, 6, 0, 1), surely(ONE_WAY, 0, 9, 1, 1), sure_age(EXAMPLE, 1, 6, 1),
        ])
        self.assertEqual(frozen([record_answers(EXAMPLE), record_answers(ONE_WAY)]), before)


if __name__ == "__main__":
    unittest.main()
