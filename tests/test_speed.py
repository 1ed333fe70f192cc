"""Point 5: at the bounds every call ends within some seconds."""

import random
import unittest

from helpers import (
    Case, desk_answers, line_answers, plan_answers, record_answers, table_answers, working_answers, world_answers,
)
from surerails.ages import age_span, hours_apart
from surerails.blame import blamed, culprits, leaves
from surerails.books import book_of, books_together, closure_of, is_closed
from surerails.bounds import bounds_of, broken_bounds, is_placing
from surerails.clashes import clash, look
from surerails.combining import covers, cross_tables, merge_tables
from surerails.continuing import continuation, is_other_run
from surerails.counters import counter_world
from surerails.cuts import Cut
from surerails.deeds import format_deeds, parse_deeds
from surerails.desk import Desk
from surerails.driving import drive
from surerails.eves import eve_of
from surerails.extremes import earliest_hours, extreme_hours
from surerails.freest import Freest, refusal
from surerails.handing import fewest_books, refusal_with
from surerails.hearing import heard_at, is_trail, letter_news, trail_of
from surerails.journals import attempt, deeds_of, replay
from surerails.knowing import is_certificate, sure_age, sure_from, surely
from surerails.lags import lag, lag_way, round_trip
from surerails.latest import broken_promises, latest_hours, worst_world
from surerails.lines import Line
from surerails.margins import faults, is_safe_table, margin
from surerails.mending import least_waits
from surerails.needs import hours_between, needed_demands, thinned
from surerails.placings import earliest_placing, latest_placing, placing_with, ticks_left
from surerails.plans import Plan
from surerails.reading import parse_record, parse_working
from surerails.records import Record
from surerails.rings import find_ring, is_ring
from surerails.rules import Both, Either, Honest
from surerails.tables import Table, news_table
from surerails.tears import torn_book, whole_at
from surerails.through import deaf_demands, gets_through, stuck_world
from surerails.trains import Train
from surerails.translation import working_of
from surerails.ways import find_bad_ring, is_bad_ring, is_possible, widest
from surerails.wishes import quicken, quickened
from surerails.workings import Working, bounded_chain
from surerails.worlds import World
from surerails.writing import format_record, format_working

SECONDS = 3
WIRES = [(k, (k + 1) % 6, 1, 2) for k in range(6)] + [((k + 1) % 6, k, 1, 3) for k in range(6)]
BOUNDS = [(a, b, 10 ** 9) for a in range(6) for b in range(6) if a != b]


def full_line():
    return Line(6, WIRES, bounds=BOUNDS)


def full_working(*, upward=True):
    """60 events, in which each act demands the 10 events before it, or behind it."""
    events = [("free", number % 6) for number in range(10)]
    for number in range(10, 60):
        others = range(number - 10, number) if upward else range(number + 1, min(number + 11, 60))
        events.append(("act", number % 6, [(other, 1 + other % 3) for other in others]))
    return Working(full_line(), events)


def riding_working():
    events = [("free", 0)] + [("ride", number % 6, number - 1, 2, 5) for number in range(1, 60)]
    return Working(full_line(), events)


def true_record():
    """Readings up to 80, and 1000 letters, most of them in time."""
    letters = []
    for at in range(83):
        for source, target, _, high in WIRES:
            come = at + 1 + at % high
            if at <= 80 and come <= 80 and len(letters) < 1000:
                letters.append((source, target, at, come))
    seen = [(event, 2 * event) for event in range(40)]
    return Record(riding_working(), [80] * 6, seen=seen, letters=letters)


def backward_record():
    """Letters and rides that lead from each reading to the one before it: hops without end."""
    letters = []
    for at in range(80, 0, -1):
        for source, target, _, _ in WIRES:
            if len(letters) < 1000:
                letters.append((source, target, at, at - 1 if source == 5 and target == 0 else at))
    seen = [(event, 79 - event) for event in range(60)]
    return Record(riding_working(), [80] * 6, seen=seen, letters=letters)


def busy_world(*, pauses=range(60)):
    """60 events: 10 free ones, 10 rides and 40 acts that demand up to 10 events, with pauses."""
    events = [("free", number % 6) for number in range(10)]
    events += [("ride", (number - 9) % 6, number - 10, 3, 3 + number) for number in range(10, 20)]
    for number in range(20, 60):
        others = range(number - 20, number - 10)
        events.append(("act", number % 6, [(other, 1 + other % 3) for other in others]))
    working = Working(full_line(), events)
    whims = [number % 7 for number in range(10)] + [3 + number for number in range(10, 20)]
    return World(working, [0, 1, 0, 1, 0, 1], whims + [pauses[act] for act in range(20, 60)], [[2, 1]] * 12)


def idle_world():
    """60 acts that are allowed from the beginning and done one behind the other, each box with one an hour or so."""
    working = Working(full_line(), [("act", number % 6, []) for number in range(60)])
    return World(working, [0] * 6, list(range(60)), [[1, 2]] * 12)


def full_table(working, *, wait=1):
    """120 rows with 6 needs each."""
    acts = [event for event in range(working.size) if working.kind(event) == "act"]
    rows = [acts[number % len(acts)] for number in range(120)]
    return Table(working, [(act, [((act + k) % 60, wait + k) for k in range(54, 60)]) for act in rows])


def four_deep(table):
    """Rules that stand in one another, and in each of them the one below it twice."""
    rule = Either(Freest(), table)
    for _ in range(3):
        rule = Both(Honest(rule), Either(rule, Honest(table)))
    return [Freest(), table, news_table(table.working), Honest(Honest(Honest(Honest(Freest())))), rule]


def possible_record():
    """The record of a drive: readings up to 79, and more than 900 letters."""
    return drive(busy_world(pauses=[0] * 60), Freest(), 80)


def full_plan():
    """Six trains over the whole line, all of them in the same order, three to each direction, on tracks of their own."""
    rides = [(3, 9)] * 4
    east = [Train(0, [k] * 5, rides) for k in range(3)]
    west = [Train(4, [k] * 5, rides, east=False) for k in range(3, 6)]
    orders = [[[k] for k in range(6)] for _ in range(5)]
    return Plan(Line(6, WIRES), [6] * 6, east + west, orders + [[[]] * 6], [list(range(6))] * 4 + [[]])


def all_at_once(working):
    """A possible record in which all acts are done at once, and everything is under way."""
    links = [working.cause(event) for event in range(working.size)]
    world = World(working, [0] * 6, [0 if link is None else link[1] for link in links], [[1]] * 12)
    return drive(world, Table(working, [(act, []) for act, link in enumerate(links) if link is None]), 80)


class TestSpeed(Case):

    def quick(self, *calls):
        for call in calls:
            with self.ends_within(SECONDS):
                call()

    def test_lines_and_lags(self):
        line = full_line()
        self.quick(
            full_line, lambda: line_answers(line), lambda: lag(line, 0, 3), lambda: lag(line, 0, 3, late=True),
            lambda: lag_way(line, 0, 3), lambda: lag_way(line, 0, 3, late=True), lambda: round_trip(line, 2),
        )

    def test_workings(self):
        working = riding_working()
        self.quick(full_working, riding_working, lambda: working_answers(working))
        self.quick(lambda: bounded_chain(working, 59))

    def test_rings(self):
        ringed = Working(full_line(), [("act", 0, [((number + 1) % 60, 1)]) for number in range(60)])
        for working in (full_working(), full_working(upward=False), riding_working(), ringed):
            self.quick(lambda: find_ring(working))
            self.quick(lambda: is_ring(working, list(range(60))), lambda: is_ring(working, list(range(200))))
        self.assertTrue(is_ring(ringed, list(range(60))))

    def test_needs(self):
        for working in (full_working(), full_working(upward=False), riding_working()):
            self.quick(lambda: hours_between(working, 0, 59), lambda: hours_between(working, 59, 10))
            self.quick(lambda: needed_demands(working), lambda: thinned(working))

    def test_plans(self):
        rides = [(3, 9)] * 5
        trains = [Train(0, [k] * 6, rides) if k % 2 else Train(5, [k] * 6, rides, east=False) for k in range(6)]
        orders = [[[k] for k in range(6)] for _ in range(6)]
        sections = [list(range(6)) for _ in range(5)]
        plan = Plan(full_line(), [6] * 6, trains, orders, sections)
        self.quick(lambda: Plan(full_line(), [6] * 6, trains, orders, sections))
        self.quick(lambda: plan_answers(plan), lambda: working_of(plan))
        working = working_of(plan)
        self.quick(lambda: needed_demands(working), lambda: find_ring(working), lambda: thinned(working))

    def test_records_and_books(self):
        for make in (true_record, backward_record):
            record = make()
            self.quick(make, lambda: record_answers(record), lambda: record.part(Cut([80] * 6)))
            for box in range(6):
                self.quick(lambda: book_of(record, box, 80), lambda: book_of(record, box, 0))
            cut = Cut([-1, 80, -1, -1, -1, -1])
            self.quick(lambda: closure_of(record, cut), lambda: is_closed(record, cut))
            moments = [(at % 6, at % 81) for at in range(200)]
            self.quick(lambda: books_together(record, moments))
            with self.ends_within(SECONDS):
                self.assertEqual(record.first_missing(0, 1) > 70, make is true_record)

    def test_hearing(self):
        for make in (true_record, backward_record):
            record = make()
            for goal in ((3, 0), (3, 40), (3, 80), (0, 0)):
                self.quick(lambda: trail_of(record, (0, 80), goal), lambda: trail_of(record, (0, 0), goal))
            hops = [("letter",) + record.letters()[at] for at in range(200)]
            self.quick(lambda: is_trail(record, (0, 0), (3, 80), hops))
            self.quick(lambda: heard_at(record, (0, 80), 3), lambda: heard_at(record, (0, 0), 3))
            source, target, sent, _ = record.letters()[500]
            self.quick(lambda: letter_news(record, source, target, sent))

    def test_long_trails_are_found(self):
        record = backward_record()
        with self.ends_within(SECONDS):
            trail = trail_of(record, (0, 80), (0, 0))
        self.assertTrue(is_trail(record, (0, 80), (0, 0), trail))
        self.assertGreater(len(trail), 50)

    def test_bounds(self):
        for make in (true_record, backward_record):
            record = make()
            self.quick(lambda: bounds_of(record), lambda: is_placing(record, [0] * 6))
            self.quick(lambda: broken_bounds(record, [0, 9, 0, 9, 0, 9]))
            self.assertGreater(len(bounds_of(record)), 1800)

    def test_random_records_at_the_bounds(self):
        chance = random.Random(5)
        keys = {(source, target, chance.randint(0, 80)) for source, target, _, _ in WIRES for _ in range(300)}
        letters = [key + (chance.randint(0, 80),) for key in sorted(keys)]
        chance.shuffle(letters)
        record = Record(full_working(), [80] * 6, letters=letters[:1000])
        for _ in range(5):
            first = (chance.randrange(6), chance.randint(0, 80))
            second = (chance.randrange(6), chance.randint(0, 80))
            self.quick(lambda: trail_of(record, first, second), lambda: heard_at(record, first, second[0]))
            self.quick(lambda: book_of(record, *first))

    def test_ways_and_placings(self):
        for make in (possible_record, true_record, backward_record):
            record = make()
            self.quick(lambda: find_bad_ring(record), lambda: is_possible(record))
            self.quick(lambda: is_bad_ring(record, bounds_of(record)[:200]))
            self.assertIs(is_possible(record), make is not backward_record)
        record = possible_record()
        self.assertGreater(len(record.letters()), 900)
        self.quick(lambda: widest(record, 0, 3), lambda: widest(record, 3, 0))
        self.quick(lambda: latest_placing(record, 2), lambda: earliest_placing(record, 2))
        self.quick(lambda: placing_with(record, 2, 2, 0), lambda: ticks_left(record, 4))

    def test_knowing_and_ages(self):
        record = possible_record()
        settings = busy_world().settings()
        self.assertIs(is_placing(record, settings), True)
        self.quick(lambda: continuation(record, settings))
        for event in (0, 19, 59):
            self.quick(lambda: surely(record, 3, 80, event, 4), lambda: surely(record, 3, 80, event, 400))
            self.quick(lambda: is_certificate(record, 3, 80, event, 0, (event, 0, bounds_of(record)[:200])))
            self.quick(lambda: is_other_run(record, 3, 80, event, 0, settings))
            self.quick(lambda: sure_age(record, 3, 80, event), lambda: sure_from(record, 3, event, 9))
            self.quick(lambda: age_span(record, 3, 80, 5), lambda: hours_apart(record, 5, 19))
        riding = Record(riding_working(), [0] * 6, seen=[(0, 0)])
        self.quick(lambda: surely(riding, 3, 80, 59, 0), lambda: continuation(riding, [0] * 6))

    def test_eves_and_leave(self):
        for make in (possible_record, true_record, backward_record):
            record = make()
            self.quick(lambda: eve_of(record, 0, record.height(0)), lambda: eve_of(record, 3, 9))
        record = possible_record()
        for act in (20, 41, 59):
            self.quick(lambda: Freest().allows(record, 80, act), lambda: refusal(record, 80, act))

    def test_tables(self):
        working = busy_world().working
        table = full_table(working)
        self.assertEqual(len(table.rows()), 120)
        self.quick(lambda: full_table(working), lambda: table_answers(table), lambda: news_table(working))
        self.quick(lambda: table.with_waits([9] * 60), lambda: covers(table, table.with_waits([9] * 60)))
        self.quick(lambda: merge_tables(table, table), lambda: cross_tables(table, table))
        backward = Record(working, [80] * 6, seen=[(0, 80)], letters=backward_record().letters())
        for record in (possible_record(), backward):
            for act in range(20, 60):
                self.quick(lambda: table.allows(record, 80, act))

    def test_extremes(self):
        working = busy_world().working
        chained = Working(full_line(), [("act", number % 6, []) for number in range(60)])
        rows = [(act, [((act + k) % 60, 9) for k in range(1, 7)]) for act in range(59, 0, -1)] + [(0, [])]
        for table in (full_table(working), news_table(working), Table(chained, rows + rows)):
            self.quick(lambda: earliest_hours(table))
            for event in (0, 19, 59):
                self.quick(lambda: extreme_hours(table, event))
        riding = Table(riding_working(), [])
        self.quick(lambda: extreme_hours(riding, 59))

    def test_margins_and_counter_worlds(self):
        upward = full_working()
        crowded = Table(upward, [(59, [((7 * k + 3 * j) % 59, 1 + k) for j in range(6)]) for k in range(120)])
        early = Table(upward, [(act, [(act - k, 1) for k in range(1, 7)]) for act in range(10, 60)] * 2)
        for table in (full_table(busy_world().working), news_table(upward), early, crowded):
            self.quick(lambda: faults(table), lambda: is_safe_table(table), lambda: latest_hours(table))
            self.quick(lambda: margin(table, 59, 49), lambda: margin(table, 59, 0))
            for act, event in faults(table)[:3] + faults(table)[-3:]:
                self.quick(lambda: counter_world(table, act, event))
        self.assertGreater(len(faults(full_table(busy_world().working))), 40)

    def test_mending(self):
        upward = full_working()
        early = [(act, [(event, 1) for event, _ in upward.demands(act)][:6]) for act in range(10, 60)]
        early = [(act, needs + [(event, 1) for event in range(act - 4, act)]) for act, needs in early]
        tables = [Table(upward, early), Table(upward, early * 2), news_table(upward), news_table(busy_world().working)]
        for table in tables:
            self.quick(lambda: least_waits(table))
        self.assertGreater(sum(least_waits(tables[0])), 10)
        self.assertIs(is_safe_table(tables[0].with_waits(least_waits(tables[0]))), True)
        ringed = Table(upward, [(act, [(max(10, (act + 1) % 60), 1)]) for act in range(10, 60)])
        with self.ends_within(SECONDS):
            with self.assertRaises(ValueError):
                least_waits(ringed)

    def test_latest_hours_and_promises(self):
        for table in (full_table(busy_world().working), news_table(full_working()), Table(riding_working(), [])):
            promises = [(number % 60, number) for number in range(200)]
            self.quick(lambda: latest_hours(table), lambda: broken_promises(table, promises))
            for working in (table.working, full_working(upward=False)):
                self.quick(lambda: worst_world(working), lambda: stuck_world(working))
                self.quick(lambda: deaf_demands(working), lambda: gets_through(working))

    def test_wishes(self):
        slack = Line(6, [(box, box + 1, 1, 10 ** 6 + box) for box in range(5)] + [(box + 1, box, 1, 9) for box in range(5)])
        wishes = [(box % 5, 5, 7 * 10 ** 5 + box) for box in range(100)] + [(5, box % 5, 43) for box in range(100)]
        self.quick(lambda: quicken(slack, wishes), lambda: quickened(slack, quicken(slack, wishes)[1] * 40))
        for hours in (4, 5, 10 ** 9):
            with self.ends_within(SECONDS):
                try:
                    quicken(slack, [(box % 3, 3 + box % 3, hours) for box in range(200)])
                except ValueError:
                    self.assertLess(hours, 5)

    def test_handing_over(self):
        record = possible_record()
        unseen = Record(record.working, record.heights(), seen=record.seen()[:-1], letters=record.letters())
        self.quick(lambda: fewest_books(unseen, 59), lambda: refusal_with(unseen, 59, list(range(6)) * 33))
        # Slow wires: many letters, and no box is sure of anything without the books of all others.
        wires = [(a, b, 1, 10 ** 6) for a in range(6) for b in range(6) if a < b][:12]
        line = Line(6, wires, bounds=[(a, b, 0) for a in range(6) for b in range(6) if a != b])
        events = [("free", box) for box in range(6)] + [("act", 5, [(box, 1) for box in range(6)]), ("act", 5, [(8, 1)])]
        working = Working(line, events + [("free", 0)] * 52)
        letters = [(a, b, at, 80) for a, b, _, _ in wires for at in range(78, -1, -1)]
        letters = [letter for letter in letters if letter[1] != 5][:1000]
        crowd = Record(working, [80] * 6, seen=[(box, 79) for box in range(6)], letters=letters)
        self.quick(lambda: fewest_books(crowd, 7), lambda: refusal_with(crowd, 7, [0, 1, 2, 3, 4]))
        with self.ends_within(SECONDS):
            self.assertEqual(fewest_books(crowd, 6), [0, 1, 2, 3, 4])

    def test_torn_books(self):
        for record in (possible_record(), true_record(), backward_record()):
            for place, hour in ((-1, 0), (-1, 1), (-1, 40), (37, 78), (-1, 78)):
                self.quick(lambda: torn_book(record, 3, place, hour, 78), lambda: whole_at(record, 3, place, hour))
                self.quick(lambda: torn_book(record, 3, place, hour, hour))

    def test_clashes(self):
        plan = full_plan()
        working = working_of(plan)
        self.assertEqual(working.size, 60)
        crowd, calm = all_at_once(working), drive(worst_world(working), Freest(), 80)
        self.assertGreater(min(len(crowd.letters()), len(calm.letters())), 900)
        for record in (crowd, calm):
            self.quick(lambda: clash(plan, record), lambda: look(plan, record))
        self.assertIsNotNone(clash(plan, crowd))
        self.assertIsNone(clash(plan, calm))
        self.quick(lambda: deeds_of(calm))

    def test_texts(self):
        record = possible_record()
        text = format_record(record)
        self.quick(lambda: format_record(record), lambda: format_working(record.working), lambda: parse_record(text))
        crowded = format_record(Record(full_working(), [80] * 6, letters=true_record().letters()))
        self.quick(lambda: parse_record(crowded), lambda: parse_working(format_working(full_working())))
        for long in ("free 0\n" * 5700, "tick 0\n" * 5700, "0 " * 20000, "\n" * 40000, "9" * 40000, "act" + " 1" * 19990):
            for parse in (parse_working, parse_record, parse_deeds):
                for head in ("", "boxes 6\nevents 999\n", "tick 1\n"):
                    with self.ends_within(SECONDS):
                        try:
                            parse(head + long)
                        except ValueError:
                            pass
        self.quick(lambda: parse_deeds("tick 0\ncome 0 1\nsee 3\n" * 1700))
        deeds = parse_deeds("tick 0\ncome 0 1\nsee 3\n" * 200)
        self.quick(lambda: format_deeds(deeds))

    def test_desks(self):
        record = possible_record()
        deeds = deeds_of(record)
        self.quick(lambda: deeds_of(record))
        desk = replay(record.working, deeds[:-200])
        self.quick(lambda: replay(record.working, deeds[:200]), lambda: attempt(desk, deeds[-200:]))
        self.assertEqual(len(desk.record().letters()), len(record.letters()))
        before = len(desk.journal())
        with self.ends_within(SECONDS):
            with self.assertRaises(ValueError):
                attempt(desk, [("tick", 0, (), ())] * 200)
        self.assertEqual(len(desk.journal()), before)
        self.quick(desk.may_act, lambda: desk.verdict(59), desk.journal, lambda: desk_answers(desk))
        with self.ends_within(SECONDS):
            for _ in range(200):
                desk.undo()
            for _ in range(200):
                desk.redo()
        free = Desk(Working(Line(6, [(0, 1, 1, None)]), [("free", 0)] * 60))
        for _ in range(80):
            free.tick(0)
        letters = [(0, at) for at in range(80)]
        self.quick(lambda: free.tick(1, letters=letters), lambda: free.tick(0, events=list(range(60))))

    def test_rules_and_blame(self):
        record = possible_record()
        self.assertEqual(len(record.seen()), 60)
        for rule in four_deep(full_table(record.working)):
            self.quick(lambda: rule.allows(record, 80, 59), lambda: leaves(record, rule, 1, 70))
            self.quick(lambda: blamed(record, rule), lambda: culprits(record, rule))

    def test_drives(self):
        for world in (busy_world(), busy_world(pauses=[0] * 60), idle_world()):
            for wait in (1, 60):
                for rule in four_deep(full_table(world.working, wait=wait)):
                    self.quick(lambda: drive(world, rule, 80))
            self.quick(lambda: world_answers(world))


if __name__ == "__main__":
    unittest.main()
