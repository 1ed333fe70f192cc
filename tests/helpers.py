"""What the tests share: checks of errors, copies and time, slow searches, and random lines, records and worlds."""

import contextlib
import itertools
import time
import unittest

from surerails import errors
from surerails.bounds import bounds_of
from surerails.freest import Freest
from surerails.lines import Line
from surerails.plans import Plan
from surerails.records import Record
from surerails.rules import Both, Either, Honest
from surerails.tables import Table
from surerails.trains import Train
from surerails.workings import Working
from surerails.worlds import World

ATTRIBUTES = {
    "NothingToUndo": (), "NothingToRedo": (), "BadSize": ("size",), "NoBox": ("box",),
    "BadWire": ("source", "target"), "BadBound": ("later", "earlier"), "NoWire": ("source", "target"),
    "NoWay": ("source", "target"), "NoEvent": ("event",), "BadRide": ("event",), "SlowWire": ("event",),
    "BadDemand": ("act", "event"), "BadRooms": ("box",), "BadTrain": ("train",), "NoTrain": ("train",),
    "NoStep": ("train", "number"), "BadHeight": ("box",), "SeenTwice": ("event",),
    "BadReading": ("box", "reading"), "CauseMissing": ("event",), "CameTwice": ("source", "target", "sent"),
    "BadCut": ("box",), "NotClosed": ("box",), "NotCome": ("source", "target", "sent"), "BadSettings": ("box",),
    "NotSeen": ("event",), "NotAct": ("event",), "BadNeed": ("act", "event"), "BadWait": ("event",),
    "BoundBroken": ("later", "earlier"), "BadWhim": ("event",), "BadLate": ("source", "target"),
    "EarlyLetter": ("source", "target", "sent"), "NoFault": ("act", "event"), "NoWait": ("act", "event"),
    "BadHigh": ("source", "target"), "BadWish": ("index",), "NoStretch": ("source", "target"),
    "AlreadyDone": ("act",), "NotOpen": ("box",), "BadTear": ("place", "hour"), "BadText": ("line",),
    "NotSeeable": ("event",), "WrongBox": ("event", "box"), "NoPlacing": ("least", "greatest"),
    "Ring": ("events",), "Circular": ("ring",), "Blamed": ("acts",), "Impossible": ("ring",),
    "BadOrder": ("place",), "NoPlace": ("place",), "NotUsed": ("place", "train"),
    "CannotQuicken": ("east", "steps"), "NoLeave": ("event", "demanded", "settings"),
}


class Case(unittest.TestCase):

    def refuses(self, name, values, call):
        """The call raises just this error, with these values, as a RailsError and a ValueError."""
        with self.assertRaises(ValueError) as caught:
            call()
        error = caught.exception
        self.assertIs(type(error), getattr(errors, name), error)
        self.assertIsInstance(error, errors.RailsError)
        self.assertEqual(tuple(getattr(error, attribute) for attribute in ATTRIBUTES[name]), values)

    def refuses_as_impossible(self, record, call):
        """The call raises Impossible with a bad ring of the record, in a list that only the error has."""
        rings = []
        for _ in range(2):
            with self.assertRaises(ValueError) as caught:
                call()
            self.assertIs(type(caught.exception), errors.Impossible)
            self.assertIsInstance(caught.exception, errors.RailsError)
            self.bad_ring(record, caught.exception.ring)
            rings.append(frozen(caught.exception.ring))
            spoil(caught.exception.ring)
        self.assertEqual(rings[0], rings[1])

    def bad_ring(self, record, ring):
        """Point 32 to the letter: the list is a bad ring of the record."""
        self.assertIs(type(ring), list)
        self.assertTrue(ring)
        self.assertLess(self.length_of_way(record, ring, ring[0][1], ring[0][1]), 0)
        earlier = [bound[1] for bound in ring]
        self.assertEqual(len(earlier), len(set(earlier)))

    def length_of_way(self, record, way, first, second):
        """Point 32 to the letter: the list is a way of bounds from the first box to the second; gives its length."""
        self.assertIs(type(way), list)
        bounds = bounds_of(record)
        box = first
        for bound in way:
            self.assertIn(bound, bounds)
            self.assertEqual(bound[1], box)
            box = bound[0]
        self.assertEqual(box, second)
        return sum(bound[2] for bound in way)

    def placing(self, record, settings):
        """Point 31 to the letter: the list is a placing of the record."""
        self.assertIs(type(settings), list)
        self.assertEqual(len(settings), record.line.size)
        self.assertTrue(keeps_all(bounds_of(record), settings), settings)

    def same_after_spoiling(self, answers):
        """What a call returns may be spoilt by the caller: the next call returns the same."""
        first = answers()
        expected = frozen(first)
        spoil(first)
        self.assertEqual(frozen(answers()), expected)

    @contextlib.contextmanager
    def ends_within(self, seconds):
        begin = time.perf_counter()
        yield
        self.assertLess(time.perf_counter() - begin, seconds)


def frozen(value):
    """A copy that tells lists, tuples, and numbers apart and that nothing can change."""
    if isinstance(value, (list, tuple)):
        return (type(value).__name__, tuple(frozen(item) for item in value))
    return (type(value).__name__, value)


def spoil(value):
    """Empties every list in a value, the innermost first, and fills it with rubbish."""
    if isinstance(value, (list, tuple)):
        for item in value:
            spoil(item)
    if isinstance(value, list):
        value[:] = ["rubbish"]


def keeps_all(bounds, settings):
    return all(settings[later] - settings[earlier] <= most for later, earlier, most, _ in bounds)


def small_placings(record, *, width=20):
    """The placings in which the box 0 has the setting 0 and no other setting is further off than the width."""
    bounds = least_bounds(record)
    others = [range(-width, width + 1)] * (record.line.size - 1)
    return [settings for settings in itertools.product([0], *others) if keeps_all(bounds, settings)]


def least_over(rows, number):
    """The least number over the placings of a width of 24, or None if it can be as small as one likes."""
    least = min(number(settings) for settings in rows)
    near = min(number(settings) for settings in rows if max(map(abs, settings)) <= 20)
    return least if least == near else None


def least_bounds(record):
    """For each two boxes the bound with the least number."""
    least = {}
    for bound in bounds_of(record):
        least.setdefault(bound[:2], bound)
    return list(least.values())


def distances(record):
    """The least length of a way of bounds for each pair (first, second) that has one; None if there is a bad ring."""
    boxes = range(record.line.size)
    lengths = {(box, box): 0 for box in boxes}
    for later, earlier, most, _ in bounds_of(record):
        lengths[earlier, later] = min(most, lengths.get((earlier, later), most))
    for middle, first, second in itertools.product(boxes, repeat=3):
        if (first, middle) in lengths and (middle, second) in lengths:
            length = lengths[first, middle] + lengths[middle, second]
            lengths[first, second] = min(length, lengths.get((first, second), length))
    return None if any(lengths[box, box] < 0 for box in boxes) else lengths


def line_answers(line):
    pairs = [(source, target) for source, target, _, _ in line.wires()]
    return [
        line.size, line.wires(), line.bounds(), [line.sources(box) for box in range(line.size)],
        [line.targets(box) for box in range(line.size)], [line.wire(*pair) for pair in pairs],
    ]


def working_answers(working):
    numbers = range(working.size)
    return [
        line_answers(working.line), working.size, working.events(),
        [working.box_of(event) for event in numbers], [working.kind(event) for event in numbers],
        [working.cause(event) for event in numbers], [working.demands(event) for event in numbers],
        [working.followers(event) for event in numbers],
        [working.events_at(box) for box in range(working.line.size)],
    ]


def train_answers(train):
    return [
        train.start, train.east, train.dwell, train.away, train.stations,
        train.tracks(), train.rides(), train.boxes(),
    ]


def plan_answers(plan):
    trains = range(plan.size)
    steps = [(train, number) for train in trains for number in range(2 * plan.train(train).stations)]
    stays = [(place, train) for place in plan.places() for train in plan.order(place)]
    return [
        line_answers(plan.line), plan.size, plan.clearing, [train_answers(plan.train(train)) for train in trains],
        [plan.event(*step) for step in steps], [plan.owner(event) for event in range(len(steps))],
        plan.places(), [plan.order(place) for place in plan.places()], [plan.stay(*stay) for stay in stays],
    ]


def record_answers(record):
    wires = [(source, target) for source, target, _, _ in record.line.wires()]
    return [
        working_answers(record.working), line_answers(record.line), record.heights(), record.seen(),
        record.letters(), [record.height(box) for box in range(record.line.size)],
        [record.reading(event) for event in range(record.working.size)],
        [record.come(source, target, sent) for source, target in wires for sent in range(5)],
        [record.first_missing(source, target) for source, target in wires],
    ]


def table_answers(table):
    events = range(table.working.size)
    return [working_answers(table.working), table.rows(), [table.rows_of(event) for event in events]]


def world_answers(world):
    return [working_answers(world.working), world.settings(), world.whims(), world.lates()]


def desk_answers(desk):
    """All that a desk tells; at the end the deeds that it could perform again, which it does and takes back."""
    working = desk.working
    verdicts = []
    for act in acts_of(working):
        open_now = desk.present(working.box_of(act)) >= 0
        verdicts.append(desk.verdict(act) if open_now else "not open")
    again = []
    try:
        while True:
            again.append(desk.redo())
    except errors.NothingToRedo:
        pass
    for _ in again:
        desk.undo()
    return [record_answers(desk.record()), desk.journal(), desk.may_act(), verdicts, again]


def deeds_by_hour(chance, record, settings):
    """Deeds for what happens in a record hour by hour, in each hour with the boxes and letters in any order."""
    working = record.working
    deeds = []
    moments = [(settings[box] + at, box) for box in range(record.line.size) for at in range(record.height(box) + 1)]
    chance.shuffle(moments)
    for hour, box in sorted(moments, key=lambda moment: moment[0]):
        at = hour - settings[box]
        letters = [(source, sent) for source, target, sent, come in record.letters() if (target, come) == (box, at)]
        now = [event for event, reading in record.seen() if (working.box_of(event), reading) == (box, at)]
        events = [event for event in now if working.kind(event) != "act"]
        chance.shuffle(letters)
        chance.shuffle(events)
        deeds.append(("tick", box, tuple(letters), tuple(events)))
        deeds.extend(("act", event) for event in now if working.kind(event) == "act")
    return deeds


def random_line(chance, *, boxes=4, longest=4, tight=False):
    """A line; a tight one has no unbounded wires."""
    size = chance.randint(1, boxes)
    pairs = [(source, target) for source in range(size) for target in range(size) if source != target]
    wires = []
    for source, target in chance.sample(pairs, chance.randint(0, min(12, len(pairs)))):
        low = chance.randint(1, longest)
        high = low + chance.randint(0, longest)
        wires.append((source, target, low, None if not tight and chance.random() < 0.25 else high))
    bounds = [pair + (chance.randint(0, 6),) for pair in pairs if chance.random() < 0.1]
    chance.shuffle(bounds)
    return Line(size, wires, bounds=bounds)


def random_working(chance, line, count, *, rings=False, kinds=("free", "ride", "ride", "act")):
    """A working; without rings each act demands only events before it."""
    events = []
    for number in range(count):
        kind = chance.choice(kinds)
        box = chance.randrange(line.size)
        if kind == "ride" and number:
            events.append(random_ride(chance, line, events))
        elif kind == "act":
            others = list(range(count if rings else number))
            chosen = chance.sample(others, min(len(others), chance.randint(0, 3)))
            events.append(("act", box, [(other, chance.randint(1, 6)) for other in chosen]))
        else:
            events.append(("free", box))
    return Working(line, events)


def random_ride(chance, line, events):
    cause = chance.randrange(len(events))
    start = events[cause][1]
    goals = [(start, 1)]
    for target in line.targets(start):
        high = line.wire(start, target)[1]
        if high is not None:
            goals.append((target, high))
    box, least = chance.choice(goals)
    low = least + chance.randint(0, 2)
    return ("ride", box, cause, low, chance.choice([None, low, low + 1, low + 3]))


def wild_record(chance, working, *, most=4, letters=6):
    """A record with readings at random, one that mostly no run can have."""
    line = working.line
    heights = [chance.randint(-1, most) for _ in range(line.size)]
    seen = {}
    for event in range(working.size):
        height = heights[working.box_of(event)]
        cause = working.cause(event)
        if height >= 0 and (cause is None or cause[0] in seen) and chance.random() < 0.6:
            seen[event] = chance.randint(0, height)
    came = {}
    for source, target, _, _ in line.wires():
        for _ in range(letters):
            if heights[source] >= 0 and heights[target] >= 0 and chance.random() < 0.5:
                came[source, target, chance.randint(0, heights[source])] = chance.randint(0, heights[target])
    return shuffled_record(chance, working, heights, seen, came)


def true_record(chance, working, *, hours=6):
    """The record of what happened in some run by some hour, or None if this run breaks what is told."""
    line = working.line
    settings = [chance.randint(0, 2) for _ in range(line.size)]
    if any(settings[later] - settings[earlier] > most for later, earlier, most in line.bounds()):
        return None
    heights = [max(-1, hours - setting) for setting in settings]
    seen = {}
    for event in range(working.size):
        hour = random_hour(chance, working, settings, seen, event, hours)
        if hour is not None:
            seen[event] = hour - settings[working.box_of(event)]
    seen = {event: reading for event, reading in seen.items() if reading <= heights[working.box_of(event)]}
    came = {}
    for source, target, low, high in line.wires():
        for sent in range(heights[source] + 1):
            late = chance.randint(low, low + 4 if high is None else high)
            come = settings[source] + sent + late - settings[target]
            if come < 0:
                return None
            if come <= heights[target]:
                came[source, target, sent] = come
    return shuffled_record(chance, working, heights, seen, came)


def random_hour(chance, working, settings, seen, event, hours):
    """The hour of an event in a run: never before its box works, and a ride within its hours."""
    setting = settings[working.box_of(event)]
    if working.cause(event) is None:
        return chance.choice([None, setting + chance.randint(0, hours)])
    cause, low, high = working.cause(event)
    if cause not in seen:
        return None
    hour = settings[working.box_of(cause)] + seen[cause]
    return hour + chance.randint(low, low + 3 if high is None else high)


def random_records(chance, count, *, boxes=3):
    """Records of runs and wild ones over lines and workings at random, about as many as the count."""
    for _ in range(count):
        working = random_working(chance, random_line(chance, boxes=boxes, longest=2), chance.randint(0, 6))
        record = chance.choice([wild_record, true_record])(chance, working)
        if record is not None:
            yield record


def possible_records(chance, count, *, boxes=3, events=6):
    """Records that some run holds, about as many as the count, with many letters and with few of them."""
    for _ in range(count):
        working = random_working(chance, random_line(chance, boxes=boxes, longest=2), chance.randint(0, events))
        record = true_record(chance, working)
        if record is not None:
            yield record


def impossible_records(chance, count, *, boxes=3):
    for record in random_records(chance, count, boxes=boxes):
        if distances(record) is None:
            yield record


def random_table(chance, working, *, longest=4):
    """A table with some rows for most acts."""
    rows = []
    for act in acts_of(working):
        for _ in range(chance.choice([0, 1, 1, 2, 3])):
            events = chance.sample(range(working.size), min(working.size, chance.randint(0, 3)))
            rows.append((act, [(event, chance.randint(1, longest)) for event in events]))
    chance.shuffle(rows)
    return Table(working, rows)


def random_tables(chance, count, *, boxes=3, events=8, rings=True):
    """Tables over lines and workings at random; without rings no act demands a later event."""
    for _ in range(count):
        line = random_line(chance, boxes=boxes, longest=3)
        working = random_working(
            chance, line, chance.randint(1, events), rings=rings, kinds=("free", "ride", "act", "act"))
        yield random_table(chance, working)


def random_rule(chance, working, depth):
    """A rule in which rules stand in one another, at most so deep."""
    kind = chance.choice([Freest, Table, Either, Both, Honest, Honest]) if depth else chance.choice([Freest, Table])
    if kind is Freest:
        return Freest()
    if kind is Table:
        return random_table(chance, working, longest=3)
    if kind is Honest:
        return Honest(random_rule(chance, working, depth - 1))
    return kind(random_rule(chance, working, depth - 1), random_rule(chance, working, depth - 1))


def acts_of(working):
    return [event for event in range(working.size) if working.kind(event) == "act"]


def random_world(chance, working, *, latest=6):
    """A world, or None if the settings do not fit the line."""
    first = chance.randint(-3, 2)
    settings = [first + chance.randint(0, 2) for _ in range(working.line.size)]
    whims = [random_whim(chance, working, event, latest) for event in range(working.size)]
    lates = [
        [random_hours(chance, low, high) for _ in range(chance.randint(1, 3))]
        for _, _, low, high in working.line.wires()
    ]
    try:
        return World(working, settings, whims, lates)
    except (errors.BoundBroken, errors.EarlyLetter):
        return None


def random_whim(chance, working, event, latest):
    link = working.cause(event)
    if link is not None:
        return random_hours(chance, link[1], link[2])
    if working.kind(event) == "act":
        return chance.choice([None, 0, 0, 0, 1, 2, 5])
    return chance.choice([None, chance.randint(0, latest), chance.randint(0, latest)])


def random_hours(chance, low, high):
    if high is None:
        return chance.choice([None, low, low + 1, low + 4])
    return chance.randint(low, high)


def random_worlds(chance, count, *, boxes=3, events=9, rings=False):
    """Worlds with many wires and acts, about as many as the count."""
    for _ in range(count):
        size = chance.randint(1, boxes)
        wires = []
        for source, target in itertools.permutations(range(size), 2):
            if chance.random() < 0.7 and len(wires) < 12:
                low = chance.randint(1, 2)
                wires.append((source, target, low, chance.choice([None, low, low, low + 1, low + 2])))
        line = Line(size, wires, bounds=[(0, size - 1, 2)] if size > 1 and chance.random() < 0.3 else [])
        working = random_working(
            chance, line, chance.randint(1, events), rings=rings, kinds=("free", "ride", "act", "act"))
        world = random_world(chance, working)
        if world is not None:
            yield world


def random_plan(chance, *, most=5, hours=((2, 3),), away=((1, 1),)):
    """A plan of some trains; the hours of their rides and their leaving are chosen from these."""
    size = chance.randint(1, 4)
    line = Line(size, [(p, p + 1, 1, 2) for p in range(size - 1)] + [(p + 1, p, 1, 2) for p in range(size - 1)])
    rooms = [chance.randint(1, 3) for _ in range(size)]
    trains = []
    for _ in range(chance.randint(0, most)):
        east = chance.random() < 0.5
        start = chance.randrange(size)
        count = chance.randint(1, size - start if east else start + 1)
        boxes = [start + k if east else start - k for k in range(count)]
        tracks = [chance.randrange(rooms[box]) for box in boxes]
        rides = [chance.choice(hours) for _ in range(count - 1)]
        dwell = chance.randint(1, 4)
        trains.append(Train(start, tracks, rides, east=east, dwell=dwell, away=chance.choice(away)))
    tracks = [[users(chance, trains, ("track", box, at)) for at in range(rooms[box])] for box in range(size)]
    sections = [users(chance, trains, ("section", p)) for p in range(size - 1)]
    return Plan(line, rooms, trains, tracks, sections, clearing=chance.randint(1, 3))


def users(chance, trains, place):
    """The trains that use the place, in any order."""
    found = [number for number, train in enumerate(trains) if place in holds(train)]
    chance.shuffle(found)
    return found


def holds(train):
    """Point 17 to the letter: for each place of the train the numbers of the events that begin and end its hold."""
    found = {}
    last = train.stations - 1
    for k, (box, number) in enumerate(zip(train.boxes(), train.tracks())):
        begin = 0 if k == 0 else 2 * (k - 1) + 1
        found["track", box, number] = (begin, 2 * last + 1 if k == last else 2 * k + 1)
        if k < last:
            found["section", min(box, train.boxes()[k + 1])] = (2 * k + 1, 2 * k + 2)
    return found


def kept_demands(record, settings):
    """Whether each act that is seen has all that it demands behind it, for so long."""
    working = record.working
    hours = {event: settings[working.box_of(event)] + reading for event, reading in record.seen()}
    return all(
        event in hours and hours[event] + wait <= hours[act]
        for act in hours for event, wait in working.demands(act)
    )


def shuffled_record(chance, working, heights, seen, came):
    entries = list(seen.items())
    letters = [letter + (come,) for letter, come in came.items()]
    chance.shuffle(entries)
    chance.shuffle(letters)
    return Record(working, heights, seen=entries, letters=letters)
