"""Driving a world: what happens in it under a rule."""

from surerails.eves import eve_of
from surerails.records import Record
from surerails.views import Court, View, is_allowed


def drive(world, rule, hours):
    """Gives the record of what happens in the first hours of the world under the rule."""
    course = Course(world, rule)
    first = min(world.settings())
    for hour in range(first, first + hours):
        course.go_on(hour)
    return course.written_by(first + hours - 1)


class Course:
    """What has happened in a world so far."""

    def __init__(self, world, rule):
        self._world = world
        self._working = world.working
        self._settings = world.settings()
        self._whims = world.whims()
        self._rule = rule
        self._court = Court()
        self._seen = {}
        # For each act that was allowed already the first reading at which it was.
        self._leaves = {}

    def written_by(self, hour):
        """Gives the record of what has happened and come by the hour."""
        heights = [max(-1, hour - setting) for setting in self._settings]
        letters = _letters_by(self._world, heights)
        return Record(self._working, heights, seen=list(self._seen.items()), letters=letters)

    def go_on(self, hour):
        """Lets come what comes at the hour, then lets the boxes act."""
        for event in range(self._working.size):
            if self._comes_at(event, hour):
                self._seen[event] = hour - self._settings[self._working.box_of(event)]
        if not any([self._is_left(event) for event in range(self._working.size)]):
            return
        done = {}
        record = self.written_by(hour)
        for box, setting in enumerate(self._settings):
            for act in self._acts_at(record, box, hour - setting):
                done[act] = hour - setting
        self._seen.update(done)

    def _comes_at(self, event, hour):
        """Tells whether it is the hour of a free event or a ride."""
        whim = self._whims[event]
        if whim is None or self._working.kind(event) == "act":
            return False
        link = self._working.cause(event)
        if link is None:
            return hour == self._settings[self._working.box_of(event)] + whim
        cause = link[0]
        return cause in self._seen and hour == self._hour(cause) + whim

    def _hour(self, event):
        return self._settings[self._working.box_of(event)] + self._seen[event]

    def _acts_at(self, record, box, reading):
        """Lists the acts that the box does now; the record holds no acts of this very hour."""
        acts = [act for act in self._working.events_at(box) if self._is_left(act)]
        if reading < 0 or not acts:
            return []
        view = View(eve_of(record, box, reading), self._court)
        allowed = [act for act in acts if is_allowed(self._rule, view, reading, act)]
        for act in allowed:
            self._leaves.setdefault(act, reading)
        return [act for act in allowed if self._leaves[act] + self._whims[act] <= reading]

    def _is_left(self, act):
        """Tells whether the event is an act that may still be done."""
        return self._working.kind(act) == "act" and self._whims[act] is not None and act not in self._seen


def _letters_by(world, heights):
    """Lists the letters that come at readings up to the heights."""
    settings = world.settings()
    letters = []
    for (source, target, _, _), row in zip(world.working.line.wires(), world.lates()):
        for sent in range(heights[source] + 1):
            late = row[sent % len(row)]
            if late is not None:
                come = settings[source] + sent + late - settings[target]
                if come <= heights[target]:
                    letters.append((source, target, sent, come))
    return letters
