"""Points 61 to 63: the least hours to be saved on the wires so that all wishes are met."""

import itertools
import random
import unittest

from helpers import Case, frozen, line_answers, spoil
from surerails import errors
from surerails.lines import Line
from surerails.wishes import quicken, quickened

# East: 4, 6 and 5 hours, of which 3, 0 and 4 can be saved. West: 9, 2 and 3, of which 8, 1 and 2 can be.
WIRES = [
    (0, 1, 1, 4), (1, 2, 6, 6), (2, 3, 1, 5), (1, 0, 1, 9), (2, 1, 1, 2), (3, 2, 1, 3), (0, 3, 1, 40), (3, 1, 1, None),
]
LINE = Line(4, WIRES, bounds=[(0, 1, 2)])


def straight(source, target):
    step = 1 if source < target else -1
    return [(box, box + step) for box in range(source, target, step)]


def sum_of_highs(line, source, target):
    return sum(line.wire(here, there)[1] for here, there in straight(source, target))


def meets_all(line, wishes):
    return all(sum_of_highs(line, source, target) <= hours for source, target, hours in wishes)


def stretched(wishes, east):
    """The wires on the straight ways of the wishes of one direction."""
    return sorted({
        pair for source, target, _ in wishes if (source < target) == east for pair in straight(source, target)
    })


def slow_saved(line, wishes, east):
    """The least hours saved over all highs of the wires in one direction, or None."""
    wires = stretched(wishes, east)
    spans = [line.wire(source, target) for source, target in wires]
    asked = [wish for wish in wishes if (wish[0] < wish[1]) == east]
    best = None
    for highs in itertools.product(*[range(low, high + 1) for low, high in spans]):
        new = dict(zip(wires, highs))
        if all(sum(new[pair] for pair in straight(source, target)) <= hours for source, target, hours in asked):
            saved = sum(high for _, high in spans) - sum(highs)
            best = saved if best is None else min(best, saved)
    return best


def random_straight_line(chance, *, gaps=True):
    """A line whose neighbours are mostly joined both ways."""
    size = chance.randint(1, 5)
    wires = []
    for box in range(size - 1):
        for source, target in ((box, box + 1), (box + 1, box)):
            low = chance.randint(1, 3)
            high = chance.choice([low, low + 1, low + 2, low + 3])
            if gaps and chance.random() < 0.1:
                high = None
            if not gaps or chance.random() < 0.95:
                wires.append((source, target, low, high))
    if size > 2:
        wires.append((0, size - 1, 1, 2))
    chance.shuffle(wires)
    return Line(size, wires)


def random_wishes(chance, line, *, tight=2):
    """Wishes that can be met each one by itself, mostly."""
    wishes = []
    pairs = [(source, target) for source in range(line.size) for target in range(line.size) if source != target]
    known = {(source, target): (low, high) for source, target, low, high in line.wires()}
    for source, target in [chance.choice(pairs) for _ in range(chance.randint(0, 4)) if pairs]:
        spans = [known.get(pair, (1, None)) for pair in straight(source, target)]
        if all(high is not None for _, high in spans):
            least, most = sum(low for low, _ in spans), sum(high for _, high in spans)
            wishes.append((source, target, max(0, chance.randint(least - (tight == 0), most + tight))))
    return wishes


class TestQuicken(Case):

    def check(self, line, wishes):
        """The points to the letter; gives the hours saved."""
        found = quicken(line, wishes)
        self.assertIs(type(found), tuple)
        saved, highs, walks = found
        self.assertEqual([type(highs), type(walks)] + [type(walk) for walk in walks], [list, tuple, list, list])
        self.assertEqual(highs, sorted(highs))
        new = quickened(line, highs)
        self.assertTrue(meets_all(new, wishes))
        self.assertEqual(len(highs), len({wire[:2] for wire in highs}))
        hours = [line.wire(source, target)[1] - high for source, target, high in highs]
        self.assertTrue(all(hour > 0 for hour in hours))
        self.assertEqual(sum(hours), saved)
        self.assertEqual(len(walks), 2)
        length = 0
        for walk, east in zip(walks, (True, False)):
            point, steps = self.follow(line, wishes, walk, 0, east)
            self.assertEqual(point, line.size - 1)
            length += steps
        self.assertEqual(length, saved)
        return saved

    def follow(self, line, wishes, steps, point, east):
        """Point 62 to the letter: goes over the steps; gives the point at the end and the length."""
        length = 0
        for kind, number in steps:
            if kind == "wish":
                source, target, hours = wishes[number]
                self.assertIs(source < target, east)
                begin, end = min(source, target), max(source, target)
                more = sum_of_highs(line, source, target) - hours
            elif kind == "keep":
                self.assertTrue(0 <= number < line.size - 1)
                begin, end, more = number, number + 1, 0
            else:
                self.assertEqual(kind, "cap")
                wire = (number, number + 1) if east else (number + 1, number)
                self.assertIn(wire, stretched(wishes, east))
                low, high = line.wire(*wire)
                begin, end, more = number + 1, number, low - high
            self.assertEqual(begin, point)
            point = end
            length += more
        return point, length

    def test_wishes_of_both_directions(self):
        self.assertEqual(self.check(LINE, [(0, 2, 8)]), 2)
        self.assertEqual(quicken(LINE, [(0, 2, 8)])[1], [(0, 1, 2)])
        self.assertEqual(self.check(LINE, [(2, 0, 5)]), 6)
        self.assertEqual(self.check(LINE, [(0, 2, 8), (2, 0, 5)]), 8)
        self.assertEqual(quicken(line=LINE, wishes=[(0, 2, 8)])[0], 2)

    def test_no_wishes(self):
        self.assertEqual(self.check(LINE, []), 0)
        self.assertEqual(quicken(LINE, [])[:2], (0, []))
        self.assertEqual(quicken(Line(1, []), []), (0, [], ([], [])))

    def test_wishes_that_are_met_already(self):
        self.assertEqual(self.check(LINE, [(0, 3, 15), (0, 3, 10 ** 9), (3, 0, 14)]), 0)
        self.assertEqual(quicken(LINE, [(0, 3, 15), (3, 0, 14)])[1], [])

    def test_met_exactly_and_by_no_hour_less(self):
        self.assertEqual(self.check(LINE, [(0, 3, 8)]), 7)
        self.cannot(LINE, [(0, 3, 7)], True)
        self.assertEqual(self.check(LINE, [(0, 3, 15)]), 0)
        self.assertEqual(self.check(LINE, [(0, 3, 14)]), 1)
        self.assertEqual(self.check(LINE, [(3, 0, 3), (1, 0, 1)]), 11)
        self.cannot(LINE, [(3, 0, 2)], False)

    def test_wires_that_serve_several_wishes(self):
        self.assertEqual(self.check(LINE, [(0, 2, 8), (0, 3, 13), (0, 1, 3)]), 2)
        line = Line(4, [(0, 1, 1, 5), (1, 2, 1, 5), (2, 3, 1, 5)])
        self.assertEqual(self.check(line, [(0, 2, 7), (1, 3, 7)]), 3)
        self.assertEqual(quicken(line, [(0, 2, 7), (1, 3, 7)])[1], [(1, 2, 2)])
        self.assertEqual(self.check(line, [(0, 2, 7), (1, 3, 7), (0, 1, 3)]), 5)
        self.assertEqual(self.check(line, [(0, 2, 5), (1, 3, 5)]), 6)
        self.assertEqual(self.check(line, [(0, 1, 2), (1, 2, 5), (2, 3, 1)]), 7)

    def test_a_wire_whose_high_is_its_low(self):
        self.assertEqual(self.check(LINE, [(1, 2, 6)]), 0)
        self.cannot(LINE, [(1, 2, 5)], True)
        self.assertEqual(self.check(LINE, [(1, 3, 7)]), 4)

    def test_wires_beside_the_straight_ways(self):
        line = Line(4, [(0, 1, 1, 4), (2, 3, 1, 4), (1, 2, 1, None), (0, 3, 1, 99), (3, 2, 1, None)])
        self.assertEqual(self.check(line, [(0, 1, 2), (2, 3, 3)]), 3)

    def test_what_each_direction_needs_alone(self):
        self.cannot(LINE, [(3, 0, 2), (0, 3, 7)], True)
        self.cannot(LINE, [(3, 0, 2), (0, 3, 8)], False)
        self.cannot(LINE, [(0, 1, 0)], True)
        self.cannot(LINE, [(3, 2, 0), (0, 1, 1)], False)

    def test_wishes_that_only_together_cannot_be_met(self):
        line = Line(4, [(0, 1, 1, 9), (1, 2, 4, 9), (2, 3, 1, 9)])
        self.assertEqual(self.check(line, [(0, 2, 5), (1, 3, 5)]), 21)
        self.cannot(line, [(0, 2, 5), (1, 3, 4)], True)

    def cannot(self, line, wishes, east):
        """Point 63 to the letter: the steps lead in a ring and save more than nothing."""
        found = []
        for _ in range(2):
            with self.assertRaises(ValueError) as caught:
                quicken(line, wishes)
            self.assertIs(type(caught.exception), errors.CannotQuicken)
            self.assertIsInstance(caught.exception, errors.RailsError)
            self.assertIs(caught.exception.east, east)
            steps = caught.exception.steps
            self.assertIs(type(steps), list)
            self.assertTrue(steps)
            start = self.start_of(wishes, steps[0])
            point, length = self.follow(line, wishes, steps, start, east)
            self.assertEqual(point, start)
            self.assertGreater(length, 0)
            found.append(frozen(steps))
            spoil(steps)
        self.assertEqual(found[0], found[1])

    def start_of(self, wishes, step):
        kind, number = step
        return min(wishes[number][:2]) if kind == "wish" else number + (kind == "cap")

    def test_against_a_search_over_all_highs(self):
        chance = random.Random(250)
        counts = [0, 0, 0]
        for _ in range(400):
            line = random_straight_line(chance)
            wishes = random_wishes(chance, line, tight=chance.choice([0, 0, 1, 2]))
            east, west = slow_saved(line, wishes, True), slow_saved(line, wishes, False)
            if east is None or west is None:
                counts[0] += 1
                self.cannot(line, wishes, east is None)
            else:
                counts[1 + (east + west > 0)] += 1
                self.assertEqual(self.check(line, wishes), east + west)
        self.assertGreater(min(counts), 30)


class TestErrors(Case):

    def test_entry_by_entry(self):
        good = (0, 2, 8)
        for box in (-1, 4):
            self.refuses("NoBox", (box,), lambda: quicken(LINE, [good, (box, 9, -1), (8, 8, 1)]))
            self.refuses("NoBox", (box,), lambda: quicken(LINE, [good, (2, box, -1), (8, 8, 1)]))
        self.refuses("BadWish", (1,), lambda: quicken(LINE, [good, (2, 2, 5), (9, 9, 9)]))
        self.refuses("BadWish", (0,), lambda: quicken(LINE, [(2, 1, -1), (9, 9, 9)]))
        self.refuses("BadWish", (2,), lambda: quicken(LINE, [good, (2, 1, 9), (1, 2, -1)]))

    def test_a_wire_that_is_missing_or_unbounded(self):
        line = Line(4, [(0, 1, 1, 4), (1, 2, 1, None), (3, 2, 1, 1), (2, 1, 1, 1)])
        for wish, wire in (((0, 2, 9), (1, 2)), ((0, 3, 9), (1, 2)), ((2, 3, 9), (2, 3)), ((3, 0, 9), (1, 0))):
            self.refuses("NoStretch", wire, lambda: quicken(line, [(0, 1, 0), wish, (7, 7, 7)]))
        self.refuses("BadWish", (0,), lambda: quicken(line, [(1, 2, -1)]))
        self.refuses("NoStretch", (1, 2), lambda: quicken(line, [(1, 2, 5), (1, 1, 5)]))
        # All wishes are looked at before it is asked whether they can be met.
        self.refuses("NoStretch", (1, 0), lambda: quicken(line, [(0, 1, 0), (1, 0, 9)]))
        self.refuses("NoBox", (6,), lambda: quicken(line, [(0, 1, 0), (1, 6, 9)]))


class TestQuickened(Case):

    def test_the_line_with_the_new_highs(self):
        line = quickened(line=LINE, highs=[(0, 1, 2), (3, 2, 1)])
        self.assertIsInstance(line, Line)
        expected = sorted([(0, 1, 1, 2), (3, 2, 1, 1)] + [wire for wire in WIRES if wire[:2] not in ((0, 1), (3, 2))])
        self.assertEqual((line.size, line.wires(), line.bounds()), (4, expected, [(0, 1, 2)]))

    def test_no_wires(self):
        self.assertEqual(line_answers(quickened(LINE, [])), line_answers(LINE))

    def test_the_low_and_the_present_high_may_be_given(self):
        line = quickened(LINE, [(0, 1, 4), (1, 2, 6), (2, 3, 1)])
        self.assertEqual([line.wire(0, 1), line.wire(1, 2), line.wire(2, 3)], [(1, 4), (6, 6), (1, 1)])

    def test_any_wire_may_be_listed(self):
        self.assertEqual(quickened(LINE, [(0, 3, 1)]).wire(0, 3), (1, 1))

    def test_an_unbounded_wire(self):
        for high in (1, 5, 10 ** 9):
            self.assertEqual(quickened(LINE, [(3, 1, high)]).wire(3, 1), (1, high))
        self.refuses("BadHigh", (3, 1), lambda: quickened(LINE, [(3, 1, 0)]))

    def test_a_wire_that_is_listed_twice(self):
        self.assertEqual(quickened(LINE, [(0, 1, 3), (2, 3, 4), (0, 1, 2)]).wire(0, 1), (1, 2))
        self.assertEqual(quickened(LINE, [(3, 1, 30), (3, 1, 30)]).wire(3, 1), (1, 30))
        self.refuses("BadHigh", (0, 1), lambda: quickened(LINE, [(0, 1, 3), (0, 1, 4)]))
        self.refuses("BadHigh", (3, 1), lambda: quickened(LINE, [(3, 1, 30), (3, 1, 31)]))

    def test_the_errors_entry_by_entry(self):
        good = (0, 1, 3)
        for box in (-1, 4):
            self.refuses("NoBox", (box,), lambda: quickened(LINE, [good, (box, 9, 0), (1, 2, 9)]))
            self.refuses("NoBox", (box,), lambda: quickened(LINE, [good, (1, box, 0), (1, 2, 9)]))
        for pair in ((1, 1), (0, 2), (3, 0)):
            self.refuses("NoWire", pair, lambda: quickened(LINE, [good, pair + (0,), (9, 9, 9)]))
        for wire in ((1, 2, 5), (1, 2, 7), (1, 0, 0), (1, 0, 10), (0, 3, 41), (1, 0, -4)):
            self.refuses("BadHigh", wire[:2], lambda: quickened(LINE, [good, wire, (9, 9, 9)]))

    def test_the_told_highs_meet_all_wishes(self):
        chance = random.Random(251)
        for _ in range(60):
            line = random_straight_line(chance, gaps=False)
            wishes = random_wishes(chance, line)
            if slow_saved(line, wishes, True) is not None and slow_saved(line, wishes, False) is not None:
                new = quickened(line, quicken(line, wishes)[1])
                self.assertTrue(meets_all(new, wishes))
                self.assertEqual(quicken(new, wishes)[:2], (0, []))


class TestCopies(Case):

    def test_nothing_is_changed_and_every_list_is_new(self):
        before = frozen(line_answers(LINE))
        wishes = [(0, 2, 8), (2, 0, 5), (0, 3, 12)]
        highs = [(0, 1, 2), (3, 2, 1), (0, 1, 1)]
        self.same_after_spoiling(lambda: quicken(LINE, wishes))
        self.same_after_spoiling(lambda: line_answers(quickened(LINE, highs)))
        self.assertEqual((wishes, highs), ([(0, 2, 8), (2, 0, 5), (0, 3, 12)], [(0, 1, 2), (3, 2, 1), (0, 1, 1)]))
        line = quickened(LINE, highs)
        after = frozen(line_answers(line))
        spoil(highs)
        self.assertEqual(frozen(line_answers(line)), after)
        self.assertEqual(frozen(line_answers(LINE)), before)


if __name__ == "__main__":
    unittest.main()
