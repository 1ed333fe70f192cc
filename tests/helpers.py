"""What the tests share: checks of errors, copies and time, and random lines, workings and records."""

import contextlib
import time
import unittest

from surerails import errors
from surerails.lines import Line
from surerails.records import Record
from surerails.workings import Working

ATTRIBUTES = {
    "NothingToUndo": (), "NothingToRedo": (), "BadSize": ("size",), "NoBox": ("box",),
    "BadWire": ("source", "target"), "BadBound": ("later", "earlier"), "NoWire": ("source", "target"),
    "NoWay": ("source", "target"), "NoEvent": ("event",), "BadRide": ("event",), "SlowWire": ("event",),
    "BadDemand": ("act", "event"), "BadRooms": ("box",), "BadTrain": ("train",), "NoTrain": ("train",),
    "NoStep": ("train", "number"), "BadHeight": ("box",), "SeenTwice": ("event",),
    "BadReading": ("box", "reading"), "CauseMissing": ("event",), "CameTwice": ("source", "target", "sent"),
    "BadCut": ("box",), "NotClosed": ("box",), "NotCome": ("source", "target", "sent"), "BadSettings": ("box",),
    "NotSeen": ("event",), "NotAct": ("event",), "BadNeed": ("act", "event"), "BadWait": ("event",),
    "BoundBroken": ("later", "earlier"), "BadWhim": ("event",), "BadLate": ("source", "target"),
    "EarlyLetter": ("source", "target", "sent"), "NoFault": ("act", "event"), "NoWait": ("act", "event"),
    "BadHigh": ("source", "target"), "BadWish": ("index",), "NoStretch": ("source", "target"),
    "AlreadyDone": ("act",), "NotOpen": ("box",), "BadTear": ("place", "hour"), "BadText": ("line",),
    "NotSeeable": ("event",), "WrongBox": ("event", "box"), "NoPlacing": ("least", "greatest"),
    "Ring": ("events",), "Circular": ("ring",), "Blamed": ("acts",), "Impossible": ("ring",),
    "BadOrder": ("place",), "NoPlace": ("place",), "NotUsed": ("place", "train"),
    "CannotQuicken": ("east", "steps"), "NoLeave": ("event", "demanded", "settings"),
}


class Case(unittest.TestCase):

    def refuses(self, name, values, call):
        """The call raises just this error, with these values, as a RailsError and a ValueError."""
        with self.assertRaises(ValueError) as caught:
            call()
        error = caught.exception
        self.assertIs(type(error), getattr(errors, name), error)
        self.assertIsInstance(error, errors.RailsError)
        self.assertEqual(tuple(getattr(error, attribute) for attribute in ATTRIBUTES[name]), values)

    def same_after_spoiling(self, answers):
        """What a call returns may be spoilt by the caller: the next call returns the same."""
        first = answers()
        expected = frozen(first)
        spoil(first)
        self.assertEqual(frozen(answers()), expected)

    @contextlib.contextmanager
    def ends_within(self, seconds):
        begin = time.perf_counter()
        yield
        self.assertLess(time.perf_counter() - begin, seconds)


def frozen(value):
    """A copy that tells lists, tuples, and numbers apart and that nothing can change."""
    if isinstance(value, (list, tuple)):
        return (type(value).__name__, tuple(frozen(item) for item in value))
    return (type(value).__name__, value)


def spoil(value):
    """Empties every list in a value, the innermost first, and fills it with rubbish."""
    if isinstance(value, (list, tuple)):
        for item in value:
            spoil(item)
    if isinstance(value, list):
        value[:] = ["rubbish"]


def line_answers(line):
    pairs = [(source, target) for source, target, _, _ in line.wires()]
    return [
        line.size, line.wires(), line.bounds(), [line.sources(box) for box in range(line.size)],
        [line.targets(box) for box in range(line.size)], [line.wire(*pair) for pair in pairs],
    ]


def working_answers(working):
    numbers = range(working.size)
    return [
        line_answers(working.line), working.size, working.events(),
        [working.box_of(event) for event in numbers], [working.kind(event) for event in numbers],
        [working.cause(event) for event in numbers], [working.demands(event) for event in numbers],
        [working.followers(event) for event in numbers],
        [working.events_at(box) for box in range(working.line.size)],
    ]


def train_answers(train):
    return [
        train.start, train.east, train.dwell, train.away, train.stations,
        train.tracks(), train.rides(), train.boxes(),
    ]


def plan_answers(plan):
    trains = range(plan.size)
    steps = [(train, number) for train in trains for number in range(2 * plan.train(train).stations)]
    stays = [(place, train) for place in plan.places() for train in plan.order(place)]
    return [
        line_answers(plan.line), plan.size, plan.clearing, [train_answers(plan.train(train)) for train in trains],
        [plan.event(*step) for step in steps], [plan.owner(event) for event in range(len(steps))],
        plan.places(), [plan.order(place) for place in plan.places()], [plan.stay(*stay) for stay in stays],
    ]


def record_answers(record):
    wires = [(source, target) for source, target, _, _ in record.line.wires()]
    return [
        working_answers(record.working), line_answers(record.line), record.heights(), record.seen(),
        record.letters(), [record.height(box) for box in range(record.line.size)],
        [record.reading(event) for event in range(record.working.size)],
        [record.come(source, target, sent) for source, target in wires for sent in range(5)],
        [record.first_missing(source, target) for source, target in wires],
    ]


def random_line(chance, *, boxes=4, longest=4, tight=False):
    """A line; a tight one has no unbounded wires."""
    size = chance.randint(1, boxes)
    pairs = [(source, target) for source in range(size) for target in range(size) if source != target]
    wires = []
    for source, target in chance.sample(pairs, chance.randint(0, min(12, len(pairs)))):
        low = chance.randint(1, longest)
        high = low + chance.randint(0, longest)
        wires.append((source, target, low, None if not tight and chance.random() < 0.25 else high))
    bounds = [pair + (chance.randint(0, 6),) for pair in pairs if chance.random() < 0.1]
    chance.shuffle(bounds)
    return Line(size, wires, bounds=bounds)


def random_working(chance, line, count, *, rings=False):
    """A working; without rings each act demands only events before it."""
    events = []
    for number in range(count):
        kind = chance.choice(["free", "ride", "ride", "act"])
        box = chance.randrange(line.size)
        if kind == "ride" and number:
            events.append(random_ride(chance, line, events))
        elif kind == "act":
            others = list(range(count if rings else number))
            chosen = chance.sample(others, min(len(others), chance.randint(0, 3)))
            events.append(("act", box, [(other, chance.randint(1, 6)) for other in chosen]))
        else:
            events.append(("free", box))
    return Working(line, events)


def random_ride(chance, line, events):
    cause = chance.randrange(len(events))
    start = events[cause][1]
    goals = [(start, 1)]
    for target in line.targets(start):
        high = line.wire(start, target)[1]
        if high is not None:
            goals.append((target, high))
    box, least = chance.choice(goals)
    low = least + chance.randint(0, 2)
    return ("ride", box, cause, low, chance.choice([None, low, low + 1, low + 3]))


def wild_record(chance, working, *, most=4, letters=6):
    """A record with readings at random, one that mostly no run can have."""
    line = working.line
    heights = [chance.randint(-1, most) for _ in range(line.size)]
    seen = {}
    for event in range(working.size):
        height = heights[working.box_of(event)]
        cause = working.cause(event)
        if height >= 0 and (cause is None or cause[0] in seen) and chance.random() < 0.6:
            seen[event] = chance.randint(0, height)
    came = {}
    for source, target, _, _ in line.wires():
        for _ in range(letters):
            if heights[source] >= 0 and heights[target] >= 0 and chance.random() < 0.5:
                came[source, target, chance.randint(0, heights[source])] = chance.randint(0, heights[target])
    return shuffled_record(chance, working, heights, seen, came)


def true_record(chance, working, *, hours=6):
    """The record of what happened in some run by some hour, or None if this run breaks what is told."""
    line = working.line
    settings = [chance.randint(0, 2) for _ in range(line.size)]
    if any(settings[later] - settings[earlier] > most for later, earlier, most in line.bounds()):
        return None
    heights = [max(-1, hours - setting) for setting in settings]
    seen = {}
    for event in range(working.size):
        hour = random_hour(chance, working, settings, seen, event, hours)
        if hour is not None:
            seen[event] = hour - settings[working.box_of(event)]
    seen = {event: reading for event, reading in seen.items() if reading <= heights[working.box_of(event)]}
    came = {}
    for source, target, low, high in line.wires():
        for sent in range(heights[source] + 1):
            late = chance.randint(low, low + 4 if high is None else high)
            come = settings[source] + sent + late - settings[target]
            if come < 0:
                return None
            if come <= heights[target]:
                came[source, target, sent] = come
    return shuffled_record(chance, working, heights, seen, came)


def random_hour(chance, working, settings, seen, event, hours):
    """The hour of an event in a run: never before its box works, and a ride within its hours."""
    setting = settings[working.box_of(event)]
    if working.cause(event) is None:
        return chance.choice([None, setting + chance.randint(0, hours)])
    cause, low, high = working.cause(event)
    if cause not in seen:
        return None
    hour = settings[working.box_of(cause)] + seen[cause]
    return hour + chance.randint(low, low + 3 if high is None else high)


def random_records(chance, count, *, boxes=3):
    """Records of runs and wild ones over lines and workings at random, about as many as the count."""
    for _ in range(count):
        working = random_working(chance, random_line(chance, boxes=boxes, longest=2), chance.randint(0, 6))
        record = chance.choice([wild_record, true_record])(chance, working)
        if record is not None:
            yield record


def shuffled_record(chance, working, heights, seen, came):
    entries = list(seen.items())
    letters = [letter + (come,) for letter, come in came.items()]
    chance.shuffle(entries)
    chance.shuffle(letters)
    return Record(working, heights, seen=entries, letters=letters)
