"""The desk at which the record of a whole line is kept, deed by deed."""

from surerails.blame import leaves
from surerails.checks import check_act
from surerails.clocks import checked_clocks
from surerails.errors import (
    BadReading, CameTwice, CauseMissing, NoLeave, NothingToRedo, NothingToUndo, NotOpen, NotSeeable, SeenTwice,
    WrongBox,
)
from surerails.eves import eve_of
from surerails.freest import Freest, refusal
from surerails.lines import check_box
from surerails.records import Record


class Desk:
    """A record that grows by deeds, which may be taken back and performed again."""

    def __init__(self, working):
        self.working = working
        self._kept = Record(working, [-1 for _ in range(working.line.size)])
        # Deeds, each with the record before it; and deeds that were taken back, each with the record behind it.
        self._done = []
        self._undone = []

    def record(self):
        """Gives the present record."""
        return self._kept

    def present(self, box):
        """Gives the present reading of a box, -1 if it has not begun to work."""
        return self._kept.height(box)

    def verdict(self, act):
        """Gives what refuses the act at the present reading of its box, or None."""
        reading = self._reading_for(act)
        return refusal(eve_of(self._kept, self.working.box_of(act), reading), reading, act)

    def may_act(self):
        """Lists the acts that are not done and that nothing refuses, ascending."""
        acts = []
        for box, height in enumerate(self._kept.heights()):
            if height >= 0:
                acts.extend(leaves(self._kept, Freest(), box, height))
        return sorted([act for act in acts if self._kept.reading(act) is None])

    def tick(self, box, *, letters=(), events=()):
        """Lets the clock of a box go on by one hour, at which the letters come and the events happen."""
        check_box(self.working.line, box)
        self._check_letters(box, letters)
        self._check_events(box, events)
        heights = self._kept.heights()
        heights[box] += 1
        deed = ("tick", box, tuple([(source, sent) for source, sent in letters]), tuple(events))
        came = [(source, box, sent, heights[box]) for source, sent in letters]
        seen = [(event, heights[box]) for event in events]
        self._accept(deed, heights, seen, came)
        return heights[box]

    def act(self, event):
        """Notes that the act is done at the present reading of its box."""
        reading = self._reading_for(event)
        if self._kept.reading(event) is not None:
            raise SeenTwice(event)
        refused = self.verdict(event)
        if refused is not None:
            raise NoLeave(event, refused[0], refused[1])
        self._accept(("act", event), self._kept.heights(), [(event, reading)], [])
        return reading

    def undo(self):
        """Takes back the last deed, and gives it."""
        if not self._done:
            raise NothingToUndo()
        deed, before = self._done.pop()
        self._undone.append((deed, self._kept))
        self._kept = before
        return deed

    def redo(self):
        """Performs again the deed that was taken back last, and gives it."""
        if not self._undone:
            raise NothingToRedo()
        deed, behind = self._undone.pop()
        self._done.append((deed, self._kept))
        self._kept = behind
        return deed

    def journal(self):
        """Lists the deeds that were accepted and not taken back, the oldest first."""
        return [deed for deed, _ in self._done]

    def perform(self, deed):
        """Performs a deed that is given as a tuple."""
        if deed[0] == "tick":
            self.tick(deed[1], letters=deed[2], events=deed[3])
        else:
            self.act(deed[1])

    def twin(self):
        """Gives a desk of its own with the same record and the same deeds."""
        other = Desk(self.working)
        other.take_over(self)
        return other

    def take_over(self, other):
        """Takes over the record and the deeds of another desk."""
        self._kept = other._kept
        self._done = list(other._done)
        self._undone = list(other._undone)

    def _accept(self, deed, heights, seen, letters):
        """Keeps the record with what is new in it, if it is possible."""
        kept = self._kept
        grown = Record(self.working, heights, seen=kept.seen() + seen, letters=kept.letters() + letters)
        checked_clocks(grown)
        self._done.append((deed, kept))
        self._undone = []
        self._kept = grown

    def _reading_for(self, act):
        """Gives the present reading of the box of the act; raises the errors of an act that cannot be asked for."""
        check_act(self.working, act)
        box = self.working.box_of(act)
        reading = self._kept.height(box)
        if reading < 0:
            raise NotOpen(box)
        return reading

    def _check_letters(self, box, letters):
        known = {}
        for source, sent in letters:
            come = self._kept.come(source, box, sent)
            if not 0 <= sent <= self._kept.height(source):
                raise BadReading(source, sent)
            if come is not None or (source, sent) in known:
                raise CameTwice(source, box, sent)
            known[source, sent] = True

    def _check_events(self, box, events):
        known = {}
        for event in events:
            if self.working.kind(event) == "act":
                raise NotSeeable(event)
            if self.working.box_of(event) != box:
                raise WrongBox(event, box)
            if self._kept.reading(event) is not None or event in known:
                raise SeenTwice(event)
            link = self.working.cause(event)
            if link is not None and self._kept.reading(link[0]) is None:
                raise CauseMissing(event)
            known[event] = True
