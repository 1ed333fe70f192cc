"""Points 73 to 77: the desk."""

import random
import unittest

from helpers import (
    Case, acts_of, deeds_by_hour, desk_answers, frozen, random_plan, random_world, random_worlds, record_answers, spoil,
    working_answers,
)
from surerails import errors
from surerails.blame import blamed
from surerails.clashes import clash, look
from surerails.continuing import continuation
from surerails.desk import Desk
from surerails.driving import drive
from surerails.eves import eve_of
from surerails.freest import Freest, refusal
from surerails.lines import Line
from surerails.placings import ticks_left
from surerails.records import Record
from surerails.translation import working_of
from surerails.ways import is_possible
from surerails.workings import Working

LINE = Line(2, [(0, 1, 1, 2), (1, 0, 1, 3)])
WORKING = Working(LINE, [
    ("free", 0), ("ride", 1, 0, 2, 4), ("act", 0, [(1, 1)]), ("free", 1), ("act", 1, []), ("ride", 0, 4, 3, 5),
])
# No letter ever has to come, and every clock is told to be like the others.
FREE_LINE = Line(3, [(0, 1, 1, None), (1, 0, 1, None), (2, 0, 1, None), (0, 2, 1, None)],
                 bounds=[(a, b, 0) for a in range(3) for b in range(3) if a != b])
EVENTS = [
    ("free", 0), ("free", 1), ("ride", 0, 0, 1, 9), ("act", 0, [(0, 2)]), ("act", 0, [(1, 1)]), ("ride", 0, 3, 1, 2),
    ("act", 2, []), ("free", 0), ("act", 1, [(6, 1)]),
]
FREE = Working(FREE_LINE, EVENTS)
# Here nothing is told of the clocks.
LOOSE = Working(Line(3, FREE_LINE.wires()), EVENTS)


def opened(working=FREE, ticks=(0, 0, 1)):
    """A desk after some empty ticks of these boxes."""
    desk = Desk(working)
    for box in ticks:
        desk.tick(box)
    return desk


class TestNewDesk(Case):

    def test_nothing_was_done(self):
        desk = Desk(working=WORKING)
        record = desk.record()
        self.assertIsInstance(record, Record)
        self.assertEqual((record.heights(), record.seen(), record.letters()), ([-1, -1], [], []))
        self.assertEqual([desk.present(0), desk.present(box=1)], [-1, -1])
        self.assertEqual((desk.journal(), desk.may_act()), ([], []))
        self.refuses("NothingToUndo", (), desk.undo)
        self.refuses("NothingToRedo", (), desk.redo)
        self.assertEqual(frozen(working_answers(desk.working)), frozen(working_answers(WORKING)))
        for act in (2, 4):
            self.refuses("NotOpen", (WORKING.box_of(act),), lambda: desk.verdict(act))
            self.refuses("NotOpen", (WORKING.box_of(act),), lambda: desk.act(act))
        for box in (-1, 2):
            self.refuses("NoBox", (box,), lambda: desk.present(box))


class TestTick(Case):

    def test_the_clock_goes_on(self):
        desk = Desk(FREE)
        self.assertEqual([desk.tick(0), desk.tick(box=0), desk.tick(2), desk.tick(0)], [0, 1, 0, 2])
        self.assertEqual(desk.record().heights(), [2, -1, 0])
        self.assertEqual([desk.present(box) for box in range(3)], [2, -1, 0])

    def test_letters_and_events_come_at_the_new_reading(self):
        desk = opened()
        self.assertEqual(desk.tick(0, letters=[(1, 0)], events=[0]), 2)
        self.assertEqual((desk.record().seen(), desk.record().letters()), ([(0, 2)], [(1, 0, 0, 2)]))
        self.assertEqual(desk.tick(0, events=(2,)), 3)
        self.assertEqual(desk.record().seen(), [(0, 2), (2, 3)])

    def test_any_order_in_one_tick(self):
        desk = opened(LOOSE, (1, 1, 1, 2, 2))
        letters, events = [(2, 1), (1, 0), (2, 0), (1, 2)], [7, 0]
        self.assertEqual(desk.tick(0, letters=letters, events=events), 0)
        self.assertEqual(desk.journal()[-1], ("tick", 0, ((2, 1), (1, 0), (2, 0), (1, 2)), (7, 0)))
        self.assertEqual(desk.record().seen(), [(0, 0), (7, 0)])
        self.assertEqual(desk.record().letters(), [(1, 0, 0, 0), (1, 0, 2, 0), (2, 0, 0, 0), (2, 0, 1, 0)])

    def test_a_letter_of_the_present_reading_of_its_source(self):
        desk = opened()
        self.refuses("BadReading", (1, 1), lambda: desk.tick(0, letters=[(1, 1)]))
        self.assertEqual(desk.tick(0, letters=[(1, 0)]), 2)

    def test_the_errors_of_the_letters_entry_by_entry(self):
        desk = opened()
        before = frozen(desk_answers(desk))
        for box in (-1, 3):
            self.refuses("NoBox", (box,), lambda: desk.tick(box, letters=[(9, 9)], events=[99]))
            self.refuses("NoBox", (box,), lambda: desk.tick(0, letters=[(1, 0), (box, -1), (8, 8)], events=[99]))
        self.refuses("NoWire", (2, 1), lambda: desk.tick(1, letters=[(0, 1), (2, -1), (9, 0)], events=[99]))
        self.refuses("NoWire", (0, 0), lambda: desk.tick(0, letters=[(0, 7)]))
        for source, sent in ((1, -1), (1, 1), (2, 0)):
            self.refuses("BadReading", (source, sent), lambda: desk.tick(0, letters=[(1, 0), (source, sent), (9, 0)]))
        self.refuses("CameTwice", (1, 0, 0), lambda: desk.tick(0, letters=[(1, 0), (1, 0), (9, 0)], events=[99]))
        self.assertEqual(frozen(desk_answers(desk)), before)
        desk.tick(0, letters=[(1, 0)])
        self.refuses("CameTwice", (1, 0, 0), lambda: desk.tick(0, letters=[(1, 0), (9, 0)], events=[99]))
        self.refuses("BadReading", (1, 1), lambda: desk.tick(0, letters=[(1, 1), (1, 0)]))

    def test_the_errors_of_the_events_entry_by_entry(self):
        desk = opened()
        before = frozen(desk_answers(desk))
        for event in (-1, 9):
            self.refuses("NoEvent", (event,), lambda: desk.tick(0, events=[0, event, 3]))
        for event in (3, 6):
            self.refuses("NotSeeable", (event,), lambda: desk.tick(0, events=[0, event, 99]))
        self.refuses("WrongBox", (1, 0), lambda: desk.tick(0, events=(7, 1, 99)))
        self.refuses("WrongBox", (2, 1), lambda: desk.tick(1, events=(2,)))
        self.refuses("SeenTwice", (0,), lambda: desk.tick(0, events=[0, 7, 0, 99]))
        # The cause must have been seen before the deed.
        self.refuses("CauseMissing", (2,), lambda: desk.tick(0, events=[0, 2, 99]))
        self.refuses("CauseMissing", (5,), lambda: desk.tick(0, events=[5, 0]))
        self.assertEqual(frozen(desk_answers(desk)), before)
        desk.tick(0, events=[0])
        self.refuses("SeenTwice", (0,), lambda: desk.tick(0, events=[0, 99]))
        self.refuses("WrongBox", (0, 1), lambda: desk.tick(1, events=[0]))
        desk.tick(0, events=[2])
        self.refuses("SeenTwice", (2,), lambda: desk.tick(0, events=[2]))

    def test_a_clock_that_cannot_go_on(self):
        desk = Desk(WORKING)
        # The letter of the reading 0 comes to the box 1 after at most 2 hours, and the answer after 3 more.
        for reading in range(5):
            self.assertEqual(desk.tick(0), reading)
        self.assertEqual(ticks_left(desk.record(), 0), 0)
        before = frozen(desk_answers(desk))
        longer = Record(WORKING, [5, -1])
        self.refuses_as_impossible(longer, lambda: desk.tick(0))
        self.assertEqual(frozen(desk_answers(desk)), before)
        self.refuses_as_impossible(Record(WORKING, [4, 0]), lambda: desk.tick(1))
        self.assertEqual(desk.tick(1, letters=[(0, 0)]), 0)
        self.refuses_as_impossible(Record(WORKING, [5, 0], letters=[(0, 1, 0, 0)]), lambda: desk.tick(0))
        self.assertEqual(desk.tick(0, letters=[(1, 0)]), 5)

    def test_a_ride_that_is_overdue(self):
        desk = Desk(FREE)
        desk.tick(0, events=[0])
        for _ in range(8):
            desk.tick(0)
        self.refuses_as_impossible(Record(FREE, [9, -1, -1], seen=[(0, 0)]), lambda: desk.tick(0))
        self.assertEqual(desk.tick(0, events=[2]), 9)
        self.assertEqual(desk.tick(0), 10)

    def test_letters_and_rides_that_come_too_early(self):
        desk = opened()
        # At the reading 0 of the box 1 the letter of the reading 0 of the box 0 cannot have come: one hour is gone.
        together = Desk(FREE)
        together.tick(0)
        wrong = Record(FREE, [0, 0, -1], letters=[(0, 1, 0, 0)])
        self.refuses_as_impossible(wrong, lambda: together.tick(1, letters=[(0, 0)]))
        self.assertEqual(together.tick(1), 0)
        self.assertEqual(together.tick(1, letters=[(0, 0)]), 1)
        self.assertEqual(desk.tick(1, letters=[(0, 0)]), 1)

    def test_other_errors_come_before_impossible(self):
        desk = Desk(WORKING)
        for _ in range(5):
            desk.tick(0)
        self.refuses("NoWire", (0, 0), lambda: desk.tick(0, letters=[(0, 0)]))
        self.refuses("NoEvent", (17,), lambda: desk.tick(0, events=[17]))
        self.refuses("CauseMissing", (5,), lambda: desk.tick(0, events=[5]))

    def test_an_empty_tick_is_refused_exactly_if_no_tick_is_left(self):
        chance = random.Random(320)
        counts = [0, 0]
        for world in random_worlds(chance, 40, events=6):
            desk = Desk(world.working)
            for deed in deeds_by_hour(chance, drive(world, Freest(), 7), world.settings()):
                for box in range(world.working.line.size):
                    left = ticks_left(desk.record(), box)
                    ticked = self.is_accepted(desk, box)
                    counts[ticked] += 1
                    self.assertIs(ticked, left is None or left >= 1)
                desk.perform(deed)
        self.assertGreater(min(counts), 50)

    def is_accepted(self, desk, box):
        try:
            desk.tick(box)
        except errors.Impossible:
            return False
        desk.undo()
        return True


class TestAct(Case):

    def test_it_is_done_at_the_present_reading(self):
        desk = opened(ticks=(2, 2))
        self.assertEqual(desk.act(6), 1)
        self.assertEqual(desk.record().seen(), [(6, 1)])
        self.assertEqual(desk.journal()[-1], ("act", 6))
        self.assertEqual(desk.record().heights(), [-1, -1, 1])

    def test_an_act_that_is_refused(self):
        desk = Desk(FREE)
        desk.tick(0, events=[0])
        desk.tick(0)
        before = frozen(desk_answers(desk))
        self.check_no_leave(desk, 3, 0)
        self.check_no_leave(desk, 4, 1)
        self.assertEqual(frozen(desk_answers(desk)), before)
        desk.tick(0)
        self.assertEqual(desk.act(event=3), 2)
        self.check_no_leave(desk, 4, 1)
        desk.tick(1, events=[1])
        self.check_no_leave(desk, 4, 1)
        desk.tick(0, letters=[(1, 0)], events=[2, 5])
        self.assertEqual(desk.act(4), 3)

    def check_no_leave(self, desk, act, demanded):
        """The desk refuses the act with its verdict; what the error shows is another run of the eve."""
        told = []
        for _ in range(2):
            with self.assertRaises(ValueError) as caught:
                desk.act(act)
            error = caught.exception
            self.assertIs(type(error), errors.NoLeave)
            self.assertIsInstance(error, errors.RailsError)
            self.assertEqual((error.event, error.demanded), (act, demanded))
            self.assertIs(type(error.settings), list)
            self.assertEqual(desk.verdict(act), (demanded, error.settings))
            box = desk.working.box_of(act)
            eve = eve_of(desk.record(), box, desk.present(box))
            self.placing(eve, error.settings)
            hour = continuation(eve, error.settings)[demanded]
            wait = dict(desk.working.demands(act))[demanded]
            self.assertTrue(hour is None or hour + wait > error.settings[box] + desk.present(box))
            told.append(list(error.settings))
            spoil(error.settings)
        self.assertEqual(told[0], told[1])

    def test_acts_of_the_same_moment_do_not_help(self):
        working = Working(Line(1, []), [("act", 0, []), ("act", 0, [(0, 1)])])
        desk = Desk(working)
        desk.tick(0)
        desk.act(0)
        self.check_no_leave(desk, 1, 0)
        desk.tick(0)
        self.assertEqual(desk.act(1), 1)

    def test_the_errors_in_their_order(self):
        desk = opened(ticks=(2, 2))
        for event in (-1, 9):
            self.refuses("NoEvent", (event,), lambda: desk.act(event))
            self.refuses("NoEvent", (event,), lambda: desk.verdict(event))
        for event in (0, 1, 2):
            self.refuses("NotAct", (event,), lambda: desk.act(event))
            self.refuses("NotAct", (event,), lambda: desk.verdict(event))
        for event, box in ((3, 0), (8, 1)):
            self.refuses("NotOpen", (box,), lambda: desk.act(event))
            self.refuses("NotOpen", (box,), lambda: desk.verdict(event))
        desk.act(6)
        self.refuses("SeenTwice", (6,), lambda: desk.act(6))
        desk.tick(2)
        self.refuses("SeenTwice", (6,), lambda: desk.act(6))

    def test_an_act_whose_ride_would_be_overdue(self):
        # The clocks are told to agree; at 40 the box 1 would have to see the ride of an act at 0.
        line = Line(2, [(0, 1, 1, 40)], bounds=[(0, 1, 0), (1, 0, 0)])
        working = Working(line, [("act", 0, []), ("ride", 1, 0, 40, 40)])
        desk = opened(working, (0,) + (1,) * 40)
        self.assertEqual(desk.may_act(), [0])
        self.assertEqual(desk.act(0), 0)
        self.assertEqual(ticks_left(desk.record(), 1), 0)
        desk.undo()
        desk.tick(1, letters=[(0, 0)])
        before = frozen(desk_answers(desk))
        self.assertIsNone(desk.verdict(0))
        self.assertEqual(desk.may_act(), [0])
        wrong = Record(working, [0, 40], seen=[(0, 0)], letters=[(0, 1, 0, 40)])
        self.refuses_as_impossible(wrong, lambda: desk.act(0))
        self.assertEqual(frozen(desk_answers(desk)), before)

    def test_leave_is_ascending(self):
        working = Working(Line(3, []), [("act", box, []) for box in (2, 0, 1, 0, 2)])
        desk = opened(working, (2, 0))
        self.assertEqual(desk.may_act(), [0, 1, 3, 4])
        desk.tick(1)
        desk.act(3)
        self.assertEqual(desk.may_act(), [0, 1, 2, 4])

    def test_verdicts_and_leave(self):
        chance = random.Random(321)
        counts = [0, 0]
        for world in random_worlds(chance, 60):
            desk = Desk(world.working)
            for deed in deeds_by_hour(chance, drive(world, Freest(), 7), world.settings()):
                desk.perform(deed)
            record = desk.record()
            allowed = []
            for act in acts_of(world.working):
                box = world.working.box_of(act)
                height = record.height(box)
                if height >= 0:
                    expected = refusal(eve_of(record, box, height), height, act)
                    found = desk.verdict(act=act)
                    counts[found is None] += 1
                    self.assertEqual(found is None, expected is None)
                    if found is not None:
                        self.assertEqual((type(found), found[0]), (tuple, expected[0]))
                        self.placing(eve_of(record, box, height), found[1])
                    elif record.reading(act) is None:
                        allowed.append(act)
            self.assertEqual(desk.may_act(), allowed)
        self.assertGreater(min(counts), 30)


class TestUndoAndRedo(Case):

    def test_one_deed(self):
        desk = opened(ticks=(2,))
        self.assertEqual(desk.act(6), 0)
        self.assertEqual(desk.undo(), ("act", 6))
        self.assertEqual(desk.record().seen(), [])
        self.assertEqual(desk.undo(), ("tick", 2, (), ()))
        self.assertEqual(desk.present(2), -1)
        self.refuses("NothingToUndo", (), desk.undo)
        self.assertEqual(desk.redo(), ("tick", 2, (), ()))
        self.assertEqual(desk.redo(), ("act", 6))
        self.assertEqual(desk.record().seen(), [(6, 0)])
        self.refuses("NothingToRedo", (), desk.redo)

    def test_both_ends(self):
        chance = random.Random(322)
        for world in random_worlds(chance, 30):
            desk = Desk(world.working)
            answers = [frozen(desk_answers(desk)[:-1])]
            deeds = deeds_by_hour(chance, drive(world, Freest(), 6), world.settings())
            for deed in deeds:
                desk.perform(deed)
                answers.append(frozen(desk_answers(desk)[:-1]))
            self.assertEqual(desk.journal(), deeds)
            for count in range(len(deeds), 0, -1):
                self.assertEqual(desk.undo(), deeds[count - 1])
                self.assertEqual(frozen(desk_answers(desk)[:-1]), answers[count - 1])
            self.refuses("NothingToUndo", (), desk.undo)
            self.assertEqual(frozen(record_answers(desk.record())), frozen(record_answers(Desk(world.working).record())))
            for count, deed in enumerate(deeds, 1):
                self.assertEqual(desk.redo(), deed)
                self.assertEqual(frozen(desk_answers(desk)[:-1]), answers[count])
            self.refuses("NothingToRedo", (), desk.redo)

    def test_a_deed_that_is_refused_leaves_what_could_be_performed_again(self):
        desk = opened(ticks=(0, 0, 2))
        desk.undo()
        desk.undo()
        for call in (
            lambda: desk.tick(9), lambda: desk.tick(0, events=[3]), lambda: desk.tick(0, letters=[(2, 0)]),
            lambda: desk.act(3), lambda: desk.act(0), lambda: desk.act(6), lambda: desk.act(99),
        ):
            with self.assertRaises(errors.RailsError):
                call()
        self.assertEqual(desk.redo(), ("tick", 0, (), ()))
        self.assertEqual(desk.redo(), ("tick", 2, (), ()))
        self.refuses("NothingToRedo", (), desk.redo)

    def test_a_deed_that_is_accepted_ends_it(self):
        desk = opened(ticks=(0, 0, 2))
        desk.undo()
        desk.undo()
        desk.tick(0)
        self.refuses("NothingToRedo", (), desk.redo)
        self.assertEqual(desk.journal(), [("tick", 0, (), ())] * 2)
        desk.tick(2)
        desk.undo()
        desk.undo()
        desk.redo()
        desk.tick(2)
        desk.act(6)
        self.refuses("NothingToRedo", (), desk.redo)
        self.assertEqual(desk.journal(), [("tick", 0, (), ())] * 2 + [("tick", 2, (), ()), ("act", 6)])

    def test_undo_and_redo_in_any_order(self):
        chance = random.Random(323)
        for world in random_worlds(chance, 30):
            deeds = deeds_by_hour(chance, drive(world, Freest(), 5), world.settings())
            desk, done, undone = Desk(world.working), [], []
            for _ in range(60):
                choice = chance.choice(["undo", "redo", "deed", "deed"])
                if choice == "undo" and done:
                    undone.append(done.pop())
                    self.assertEqual(desk.undo(), undone[-1])
                elif choice == "redo" and undone:
                    done.append(undone.pop())
                    self.assertEqual(desk.redo(), done[-1])
                elif choice == "deed" and len(done) < len(deeds):
                    done.append(deeds[len(done)])
                    undone = []
                    desk.perform(done[-1])
                self.assertEqual(desk.journal(), done)


class TestWhatAlwaysHolds(Case):

    def wild_deeds(self, chance, desk, count):
        """Tries deeds at random; counts those that are accepted."""
        working = desk.working
        accepted = 0
        for _ in range(count):
            box = chance.randrange(working.line.size)
            record = desk.record()
            letters = [
                (source, sent) for source in working.line.sources(box) for sent in range(record.height(source) + 1)
                if record.come(source, box, sent) is None and chance.random() < 0.5
            ]
            events = [
                event for event in working.events_at(box) if working.kind(event) != "act" and chance.random() < 0.4
                and record.reading(event) is None
            ]
            acts = acts_of(working)
            try:
                if acts and chance.random() < 0.4:
                    desk.act(chance.choice(acts))
                elif chance.random() < 0.1:
                    desk.undo()
                else:
                    desk.tick(box, letters=letters, events=events)
                accepted += 1
            except errors.RailsError:
                pass
        return accepted

    def test_the_record_is_possible_and_nobody_is_blamed(self):
        chance = random.Random(324)
        done, accepted = 0, 0
        for world in random_worlds(chance, 100, boxes=3, rings=True):
            desk = Desk(world.working)
            for _ in range(4):
                accepted += self.wild_deeds(chance, desk, 12)
                self.assertIs(is_possible(desk.record()), True)
                self.assertEqual(blamed(desk.record(), Freest()), [])
            done += sum(world.working.kind(event) == "act" for event, _ in desk.record().seen())
        self.assertGreater(done, 30)
        self.assertGreater(accepted, 400)

    def test_trains_never_clash(self):
        chance = random.Random(325)
        begun = 0
        for _ in range(50):
            plan = random_plan(chance, hours=((2, 3), (2, None)), away=((1, 1), (1, 4), (2, None)))
            desk = Desk(working_of(plan))
            world = None
            while world is None:
                world = random_world(chance, desk.working)
            for deed in deeds_by_hour(chance, drive(world, Freest(), 9), world.settings()):
                desk.perform(deed)
            self.wild_deeds(chance, desk, 30)
            begun += len(desk.record().seen())
            self.assertIsNone(clash(plan, desk.record()))
            self.assertEqual(look(plan, desk.record()), ("clear", []))
        self.assertGreater(begun, 80)

    def test_two_desks_with_the_same_record_tell_the_same(self):
        chance = random.Random(326)
        different = 0
        for world in random_worlds(chance, 50):
            record = drive(world, Freest(), 6)
            desks = []
            for _ in range(2):
                desk = Desk(world.working)
                for deed in deeds_by_hour(chance, record, world.settings()):
                    desk.perform(deed)
                desks.append(desk)
            different += desks[0].journal() != desks[1].journal()
            for desk in desks:
                self.assertEqual(frozen(record_answers(desk.record())), frozen(record_answers(record)))
            self.assertEqual(*[desk.may_act() for desk in desks])
            for act in acts_of(world.working):
                self.assertEqual(*[self.told(desk, "act", act) for desk in desks])
            for box in range(world.working.line.size):
                self.assertEqual(*[self.told(desk, "tick", box) for desk in desks])
        self.assertGreater(different, 20)

    def told(self, desk, deed, number):
        """What a deed gives, or the name of its error."""
        try:
            answer = desk.act(number) if deed == "act" else desk.tick(number)
        except errors.RailsError as error:
            return type(error).__name__, getattr(error, "demanded", None)
        desk.undo()
        return answer


class TestCopies(Case):

    def test_passed_lists_may_be_changed_later(self):
        desk = opened(LOOSE, (1, 1))
        letters, events = [(1, 1), (1, 0)], [7, 0]
        desk.tick(0, letters=letters, events=events)
        self.assertEqual((letters, events), ([(1, 1), (1, 0)], [7, 0]))
        before = frozen(desk_answers(desk))
        spoil(letters)
        spoil(events)
        self.assertEqual(frozen(desk_answers(desk)), before)
        self.assertEqual(desk.undo(), ("tick", 0, ((1, 1), (1, 0)), (7, 0)))
        self.assertEqual(desk.redo(), ("tick", 0, ((1, 1), (1, 0)), (7, 0)))
        self.assertEqual(frozen(desk_answers(desk)), before)

    def test_every_list_is_new(self):
        desk = opened(ticks=(1, 1, 0, 2))
        desk.act(6)
        self.same_after_spoiling(lambda: desk_answers(desk))
        self.same_after_spoiling(desk.journal)
        self.same_after_spoiling(desk.may_act)
        self.same_after_spoiling(lambda: record_answers(desk.record()))

    def test_a_record_that_was_given_stays_as_it_was(self):
        desk = opened(LOOSE, (1, 1))
        record = desk.record()
        before = frozen(record_answers(record))
        desk.tick(0, letters=[(1, 0)], events=[0])
        desk.undo()
        desk.tick(1, events=[1])
        self.assertEqual(frozen(record_answers(record)), before)

    def test_the_working_is_not_changed(self):
        before = frozen(working_answers(FREE))
        opened()
        self.assertEqual(frozen(working_answers(FREE)), before)


if __name__ == "__main__":
    unittest.main()
