"""Points 78 and 79: deeds that are performed from a list, and the deeds of a record."""

import random
import unittest

from helpers import (
    Case, deeds_by_hour, desk_answers, frozen, impossible_records, keeps_all, possible_records, random_rule, random_worlds,
    record_answers, spoil, working_answers,
)
from surerails import errors
from surerails.blame import blamed
from surerails.bounds import bounds_of
from surerails.clashes import look
from surerails.deeds import format_deeds, parse_deeds
from surerails.desk import Desk
from surerails.driving import drive
from surerails.freest import Freest
from surerails.journals import attempt, deeds_of, replay
from surerails.lines import Line
from surerails.plans import Plan
from surerails.records import Record
from surerails.workings import Working

LINE = Line(2, [(0, 1, 1, 2), (1, 0, 1, 3)])
WORKING = Working(LINE, [("free", 0), ("ride", 1, 0, 2, 4), ("act", 0, [(1, 1)]), ("free", 1), ("act", 1, [])])
DEEDS = [
    ("tick", 0, (), (0,)), ("tick", 1, (), ()), ("act", 4), ("tick", 0, ((1, 0),), ()), ("tick", 1, ((0, 0),), (3,)),
]


def clear_records(chance, count):
    """Records that are possible and in which nobody is blamed."""
    for world in random_worlds(chance, count):
        yield drive(world, Freest(), chance.randint(1, 9))
    for record in possible_records(chance, count):
        if not blamed(record, Freest()):
            yield record


class TestReplay(Case):

    def test_the_deeds_in_order(self):
        desk = replay(working=WORKING, deeds=DEEDS)
        self.assertIsInstance(desk, Desk)
        record = desk.record()
        self.assertEqual((record.heights(), record.seen()), ([1, 1], [(0, 0), (3, 1), (4, 0)]))
        self.assertEqual(record.letters(), [(0, 1, 0, 1), (1, 0, 0, 1)])
        self.assertEqual(desk.journal(), DEEDS)
        self.refuses("NothingToRedo", (), desk.redo)

    def test_no_deeds(self):
        desk = replay(WORKING, [])
        self.assertEqual((desk.record().heights(), desk.journal()), ([-1, -1], []))

    def test_it_raises_what_they_raise(self):
        for deed, name, values in (
            (("tick", 7, (), ()), "NoBox", (7,)), (("act", 0), "NotAct", (0,)), (("act", 4), "SeenTwice", (4,)),
            (("tick", 0, ((1, 0),), ()), "CameTwice", (1, 0, 0)), (("tick", 0, (), (3,)), "WrongBox", (3, 0)),
            (("tick", 0, (), (2,)), "NotSeeable", (2,)), (("tick", 1, ((0, 5),), ()), "BadReading", (0, 5)),
        ):
            self.refuses(name, values, lambda: replay(WORKING, DEEDS + [deed, ("act", 99)]))
        with self.assertRaises(errors.NoLeave) as caught:
            replay(WORKING, DEEDS + [("act", 2)])
        self.assertEqual((caught.exception.event, caught.exception.demanded), (2, 1))
        late = Record(WORKING, [5, -1])
        self.refuses_as_impossible(late, lambda: replay(WORKING, [("tick", 0, (), ())] * 9))

    def test_the_journal_of_a_desk(self):
        chance = random.Random(330)
        for world in random_worlds(chance, 40):
            deeds = deeds_by_hour(chance, drive(world, Freest(), 6), world.settings())
            desk = replay(world.working, deeds)
            self.assertEqual(desk.journal(), deeds)
            again = replay(world.working, desk.journal())
            self.assertEqual(frozen(desk_answers(again)), frozen(desk_answers(desk)))


class TestAttempt(Case):

    def ready(self):
        """A desk at which two deeds could be performed again."""
        desk = replay(WORKING, DEEDS)
        desk.undo()
        desk.undo()
        return desk

    def test_all_of_them(self):
        desk = self.ready()
        self.assertEqual(attempt(desk=desk, deeds=DEEDS[3:]), 2)
        self.assertEqual(desk.journal(), DEEDS)
        self.assertEqual(frozen(record_answers(desk.record())), frozen(record_answers(replay(WORKING, DEEDS).record())))

    def test_what_could_be_performed_again_is_gone(self):
        desk = self.ready()
        self.assertEqual(attempt(desk, [("tick", 1, ((0, 0),), ())]), 1)
        self.refuses("NothingToRedo", (), desk.redo)
        self.assertEqual(desk.undo(), ("tick", 1, ((0, 0),), ()))
        self.assertEqual(desk.undo(), ("act", 4))

    def test_an_empty_list(self):
        desk = self.ready()
        before = frozen(desk_answers(desk))
        self.assertEqual(attempt(desk, []), 0)
        self.assertEqual(frozen(desk_answers(desk)), before)
        self.assertEqual([desk.redo(), desk.redo()], DEEDS[3:])

    def test_one_that_fails_at_its_last_deed(self):
        for last, name, values in (
            (("act", 4), "SeenTwice", (4,)), (("tick", 0, ((1, 0),), ()), "CameTwice", (1, 0, 0)),
            (("act", 99), "NoEvent", (99,)),
        ):
            desk = self.ready()
            before = frozen(desk_answers(desk))
            self.refuses(name, values, lambda: attempt(desk, DEEDS[3:] + [last]))
            self.assertEqual(frozen(desk_answers(desk)), before)
            self.assertEqual([desk.redo(), desk.redo()], DEEDS[3:])

    def test_one_that_fails_with_what_an_error_shows(self):
        desk = self.ready()
        before = frozen(desk_answers(desk))
        with self.assertRaises(errors.NoLeave) as caught:
            attempt(desk, DEEDS[3:] + [("act", 2)])
        self.assertEqual(caught.exception.demanded, 1)
        spoil(caught.exception.settings)
        self.assertEqual(frozen(desk_answers(desk)), before)
        with self.assertRaises(errors.Impossible):
            attempt(desk, [("tick", 0, (), ())] * 9)
        self.assertEqual(frozen(desk_answers(desk)), before)

    def test_one_that_fails_at_once(self):
        desk = Desk(WORKING)
        self.refuses("NotOpen", (1,), lambda: attempt(desk, [("act", 4)] + DEEDS))
        self.assertEqual((desk.journal(), desk.record().heights()), ([], [-1, -1]))
        self.refuses("NothingToUndo", (), desk.undo)

    def test_the_same_as_deed_by_deed(self):
        chance = random.Random(331)
        for world in random_worlds(chance, 40):
            deeds = deeds_by_hour(chance, drive(world, Freest(), 6), world.settings())
            at = chance.randint(0, len(deeds))
            desk = replay(world.working, deeds[:at])
            self.assertEqual(attempt(desk, deeds[at:]), len(deeds) - at)
            self.assertEqual(frozen(desk_answers(desk)), frozen(desk_answers(replay(world.working, deeds))))
            for deed in reversed(deeds):
                self.assertEqual(desk.undo(), deed)


class TestDeedsOf(Case):

    def check(self, record):
        """All deeds are accepted and lead to the record."""
        deeds = deeds_of(record)
        self.assertIs(type(deeds), list)
        for deed in deeds:
            self.assertIs(type(deed), tuple)
            if deed[0] == "tick":
                self.assertEqual([type(part) for part in deed[2:]], [tuple, tuple])
        desk = Desk(record.working)
        for deed in deeds:
            if deed[0] == "tick":
                desk.tick(deed[1], letters=deed[2], events=deed[3])
            else:
                desk.act(deed[1])
        self.assertEqual(frozen(record_answers(desk.record())), frozen(record_answers(record)))
        self.assertEqual(desk.journal(), deeds)
        self.assertEqual(parse_deeds(format_deeds(deeds)), deeds)
        return deeds

    def test_a_record_without_a_reading(self):
        self.assertEqual(self.check(Record(WORKING, [-1, -1])), [])
        self.assertEqual(deeds_of(record=Record(WORKING, [-1, -1])), [])

    def test_one_reading(self):
        record = Record(WORKING, [-1, 0], seen=[(3, 0), (4, 0)])
        self.assertEqual(self.check(record), [("tick", 1, (), (3,)), ("act", 4)])

    def test_the_deeds_of_a_desk(self):
        record = replay(WORKING, DEEDS).record()
        self.assertEqual(len(self.check(record)), len(DEEDS))

    def test_settings_that_are_far_apart(self):
        line = Line(2, [(0, 1, 10 ** 9, 10 ** 9)])
        working = Working(line, [("free", 0), ("act", 1, [(0, 10 ** 9)])])
        record = Record(working, [3, 3], seen=[(0, 1), (1, 2)], letters=[(0, 1, at, at) for at in range(4)])
        self.assertEqual(len(self.check(record)), 9)

    def test_at_random(self):
        chance = random.Random(332)
        count = 0
        for record in clear_records(chance, 120):
            self.check(record)
            count += 1
        self.assertGreater(count, 120)

    def test_a_desk_has_no_clash_and_is_clear(self):
        chance = random.Random(333)
        for record in clear_records(chance, 30):
            plan = Plan(record.line, [1] * record.line.size, [], [[[]]] * record.line.size, [[]] * (record.line.size - 1))
            self.assertEqual(look(plan, replay(record.working, deeds_of(record)).record()), ("clear", []))

    def test_records_that_are_not_possible(self):
        chance = random.Random(334)
        found = 0
        for record in impossible_records(chance, 100):
            found += 1
            self.refuses_as_impossible(record, lambda: deeds_of(record))
        self.assertGreater(found, 8)

    def test_acts_that_are_blamed(self):
        record = Record(WORKING, [3, -1], seen=[(0, 1), (2, 2)])
        self.refuses("Blamed", ([2],), lambda: deeds_of(record))
        # Impossible comes first.
        worse = Record(WORKING, [9, -1], seen=[(0, 1), (2, 2)])
        self.assertFalse(any(keeps_all(bounds_of(worse), [0, later]) for later in range(-20, 20)))
        self.refuses_as_impossible(worse, lambda: deeds_of(worse))

    def test_all_of_the_blamed_acts_are_told(self):
        chance = random.Random(335)
        found = 0
        for world in random_worlds(chance, 150):
            record = drive(world, random_rule(chance, world.working, 1), 8)
            acts = blamed(record, Freest())
            if acts:
                found += 1
                told = []
                for _ in range(2):
                    with self.assertRaises(ValueError) as caught:
                        deeds_of(record)
                    self.assertIs(type(caught.exception), errors.Blamed)
                    self.assertIsInstance(caught.exception, errors.RailsError)
                    self.assertIs(type(caught.exception.acts), list)
                    told.append(list(caught.exception.acts))
                    spoil(caught.exception.acts)
                self.assertEqual(told, [acts, acts])
        self.assertGreater(found, 8)


class TestCopies(Case):

    def test_nothing_is_changed_and_every_list_is_new(self):
        deeds = list(DEEDS)
        before = frozen(working_answers(WORKING))
        self.same_after_spoiling(lambda: desk_answers(replay(WORKING, deeds)))
        desk = replay(WORKING, deeds)
        record = desk.record()
        answers = frozen(record_answers(record))
        self.same_after_spoiling(lambda: deeds_of(record))
        self.assertEqual(deeds, DEEDS)
        more = [("tick", 0, (), ())]
        attempt(desk, more)
        after = frozen(desk_answers(desk))
        spoil(deeds)
        spoil(more)
        self.assertEqual(frozen(desk_answers(desk)), after)
        self.assertEqual(frozen(record_answers(record)), answers)
        self.assertEqual(frozen(working_answers(WORKING)), before)

    def test_two_desks_go_ways_of_their_own(self):
        first, second = replay(WORKING, DEEDS), replay(WORKING, DEEDS)
        before = frozen(desk_answers(second))
        attempt(first, [("tick", 0, (), ())])
        first.undo()
        first.undo()
        first.tick(1)
        self.assertEqual(frozen(desk_answers(second)), before)


if __name__ == "__main__":
    unittest.main()
