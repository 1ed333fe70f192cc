"""Points 17 and 19: the working of a plan."""

import random
import unittest

from helpers import Case, frozen, holds, plan_answers, random_plan, working_answers
from surerails.lines import Line
from surerails.needs import needed_demands
from surerails.plans import Plan
from surerails.rings import find_ring
from surerails.trains import Train
from surerails.translation import working_of

LINE = Line(3, [(0, 1, 1, 2), (1, 0, 1, 2), (1, 2, 1, 3), (2, 1, 1, 3)])


def example(**changes):
    line = Line(2, [(0, 1, 1, 2), (1, 0, 1, 2)])
    trains = [Train(0, [0, 0], [(2, 4)]), Train(1, [1, 0], [(2, 4)], east=False)]
    return Plan(line, [1, 2], trains, [[[0, 1]], [[0], [1]]], [[0, 1]], **changes)


def single(train, line=LINE):
    """A plan of one train, on a line whose stations have three tracks each."""
    boxes = train.boxes()
    tracks = [[[] for _ in range(3)] for _ in range(line.size)]
    for box, number in zip(boxes, train.tracks()):
        tracks[box][number] = [0]
    sections = [[0] if p in boxes and p + 1 in boxes else [] for p in range(line.size - 1)]
    return Plan(line, [3] * line.size, [train], tracks, sections)


class TestWorkingOf(Case):

    def test_the_example_of_the_document(self):
        plan = example()
        working = working_of(plan)
        answers = [working.demands(5), needed_demands(working), plan.stay(("section", 0), 1)]
        self.assertEqual(answers, [[(1, 1), (2, 1), (4, 1)], [(1, 0), (5, 2), (5, 4)], (5, 6)])

    def test_all_events_of_the_example(self):
        self.assertEqual(working_of(plan=example(clearing=3)).events(), [
            ("act", 0, ()), ("act", 0, ((0, 1),)), ("ride", 1, 1, 2, 4), ("ride", 1, 2, 1, 1),
            ("act", 1, ()), ("act", 1, ((1, 3), (2, 3), (4, 1))), ("ride", 0, 5, 2, 4), ("ride", 0, 6, 1, 1),
        ])

    def test_the_line_is_that_of_the_plan(self):
        self.assertEqual(working_of(example()).line.wires(), example().line.wires())

    def test_an_eastward_train(self):
        train = Train(0, [1, 0, 2], [(2, 4), (3, None)], dwell=5, away=(2, None))
        self.assertEqual(working_of(single(train)).events(), [
            ("act", 0, ()), ("act", 0, ((0, 5),)), ("ride", 1, 1, 2, 4), ("act", 1, ((2, 5),)),
            ("ride", 2, 3, 3, None), ("ride", 2, 4, 2, None),
        ])

    def test_a_westward_train(self):
        train = Train(2, [1, 0], [(7, 8)], east=False, away=(3, 4))
        self.assertEqual(working_of(single(train)).events(), [
            ("act", 2, ()), ("act", 2, ((0, 1),)), ("ride", 1, 1, 7, 8), ("ride", 1, 2, 3, 4),
        ])

    def test_a_train_with_one_station(self):
        self.assertEqual(working_of(single(Train(1, [0], [], away=(4, 6)))).events(), [
            ("act", 1, ()), ("ride", 1, 0, 4, 6),
        ])

    def test_no_trains(self):
        plan = Plan(Line(1, []), [1], [], [[[]]], [])
        self.assertEqual(working_of(plan).events(), [])

    def test_an_entry_waits_for_the_train_before_it_alone(self):
        trains = [Train(0, [0], []), Train(0, [0], []), Train(0, [0], [])]
        working = working_of(Plan(Line(1, []), [1], trains, [[[2, 0, 1]]], [], clearing=4))
        self.assertEqual([working.demands(event) for event in (0, 2, 4)], [[(5, 4)], [(1, 4)], []])

    def test_two_trains_over_the_same_places(self):
        train = Train(0, [0, 0], [(2, 2)], dwell=3)
        working = working_of(Plan(LINE, [1, 1, 1], [train, train], [[[1, 0]], [[1, 0]], [[]]], [[1, 0], []]))
        self.assertEqual(working.demands(0), [(5, 1)])
        self.assertEqual(working.demands(1), [(0, 3), (6, 1), (7, 1)])
        self.assertEqual((working.demands(4), working.demands(5)), ([], [(4, 3)]))

    def test_two_different_trains_before(self):
        rows = [Train(0, [0, 0], [(2, 2)]), Train(1, [0], []), Train(1, [1, 0], [(2, 2)], east=False)]
        plan = Plan(LINE, [1, 2, 1], rows, [[[2, 0]], [[1, 0], [2]], [[]]], [[2, 0], []], clearing=2)
        working = working_of(plan)
        self.assertEqual(working.demands(0), [(9, 2)])
        self.assertEqual(working.demands(1), [(0, 1), (5, 2), (8, 2)])

    def test_orders_that_cannot_be_worked_give_a_ring(self):
        rows = [Train(0, [0, 0], [(2, 2)]), Train(1, [0, 0], [(2, 2)], east=False)]
        plan = Plan(LINE, [1, 1, 1], rows, [[[0, 1]], [[1, 0]], [[]]], [[0, 1], []])
        self.assertIsNotNone(find_ring(working_of(plan)))

    def test_a_slow_wire(self):
        self.refuses("SlowWire", (2,), lambda: working_of(single(Train(0, [0, 0], [(1, 9)]))))
        self.refuses("SlowWire", (4,), lambda: working_of(single(Train(0, [0, 0, 0], [(2, 9), (2, 9)]))))
        self.refuses("SlowWire", (2,), lambda: working_of(single(Train(2, [0, 0], [(2, 9)], east=False))))
        self.assertEqual(working_of(single(Train(0, [0, 0, 0], [(2, 2), (3, 3)]))).size, 6)

    def test_a_missing_or_unbounded_wire(self):
        train = Train(0, [0, 0], [(50, 60)])
        for wires in ([], [(1, 0, 1, 1)], [(0, 1, 1, None)]):
            self.refuses("SlowWire", (2,), lambda: working_of(single(train, Line(2, wires))))
        self.assertEqual(working_of(single(train, Line(2, [(0, 1, 1, 50)]))).size, 4)

    def test_the_slow_wire_of_a_later_train(self):
        rows = [Train(0, [0], []), Train(0, [1, 0], [(1, 1)])]
        plan = Plan(LINE, [2, 1, 1], rows, [[[0], [1]], [[1]], [[]]], [[1], []])
        self.refuses("SlowWire", (4,), lambda: working_of(plan))


class TestAgainstThePoints(Case):

    def test_random_plans(self):
        chance = random.Random(19)
        for _ in range(60):
            plan = random_plan(chance)
            working = working_of(plan)
            self.assertEqual(working.size, sum(2 * plan.train(train).stations for train in range(plan.size)))
            for event in range(working.size):
                self.assertEqual(working.demands(event), expected_demands(plan, event))
                self.assertEqual(working.box_of(event), expected_box(plan, event))


def expected_demands(plan, event):
    """An act first takes the places whose hold begins with it; point 19 tells what it waits for."""
    train, number = plan.owner(event)
    if number > 0 and number % 2 == 0 or number == 2 * plan.train(train).stations - 1:
        return []
    demands = [] if number == 0 else [(event - 1, plan.train(train).dwell)]
    for place, (begin, _) in holds(plan.train(train)).items():
        at = plan.order(place).index(train)
        if begin == number and at > 0:
            before = plan.order(place)[at - 1]
            demands.append((plan.event(before, holds(plan.train(before))[place][1]), plan.clearing))
    return sorted(demands)


def expected_box(plan, event):
    train, number = plan.owner(event)
    return plan.train(train).boxes()[number // 2]


class TestCopies(Case):

    def test_nothing_is_changed_and_every_list_is_new(self):
        plan = example()
        before = frozen(plan_answers(plan))
        self.same_after_spoiling(lambda: working_answers(working_of(plan)))
        self.assertEqual(frozen(plan_answers(plan)), before)


if __name__ == "__main__":
    unittest.main()
