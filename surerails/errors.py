"""All errors of the program.

An error that holds a list gives texts to the base class by itself: otherwise
Python would keep the list that was passed, which the caller may change.
"""


class RailsError(ValueError):
    """The base class of all errors that the program raises."""


class NothingToUndo(RailsError):
    """No deed is left that could be taken back."""


class NothingToRedo(RailsError):
    """No deed is left that could be performed again."""


class BadSize(RailsError):
    """A line has at least one box."""
    def __init__(self, size):
        self.size = size


class NoBox(RailsError):
    """The line has no such box."""
    def __init__(self, box):
        self.box = box


class BadWire(RailsError):
    """A wire joins a box to itself, has bad hours or comes twice."""
    def __init__(self, source, target):
        self.source = source
        self.target = target


class BadBound(RailsError):
    """A clock bound names one box twice, is negative or comes twice."""
    def __init__(self, later, earlier):
        self.later = later
        self.earlier = earlier


class NoWire(RailsError):
    """The line has no wire between these boxes."""
    def __init__(self, source, target):
        self.source = source
        self.target = target


class NoWay(RailsError):
    """No way leads from the source to the target."""
    def __init__(self, source, target):
        self.source = source
        self.target = target


class NoEvent(RailsError):
    """The working has no such event."""
    def __init__(self, event):
        self.event = event


class BadRide(RailsError):
    """The hours of a ride are less than 1 or in the wrong order."""
    def __init__(self, event):
        self.event = event


class SlowWire(RailsError):
    """No wire is surely as quick as this ride."""
    def __init__(self, event):
        self.event = event


class BadDemand(RailsError):
    """A demand waits for less than 1 hour or comes twice."""
    def __init__(self, act, event):
        self.act = act
        self.event = event


class BadRooms(RailsError):
    """A station has no tracks, or no box."""
    def __init__(self, box):
        self.box = box


class BadTrain(RailsError):
    """A train cannot run in its plan."""
    def __init__(self, train):
        self.train = train


class NoTrain(RailsError):
    """The plan has no such train."""
    def __init__(self, train):
        self.train = train


class NoStep(RailsError):
    """The train has no event with this number."""
    def __init__(self, train, number):
        self.train = train
        self.number = number


class BadHeight(RailsError):
    """A height is missing, too low or too many."""
    def __init__(self, box):
        self.box = box


class SeenTwice(RailsError):
    """An event is seen twice."""
    def __init__(self, event):
        self.event = event


class BadReading(RailsError):
    """The box has no such reading there."""
    def __init__(self, box, reading):
        self.box = box
        self.reading = reading


class CauseMissing(RailsError):
    """A ride is seen, but its cause is not."""
    def __init__(self, event):
        self.event = event


class CameTwice(RailsError):
    """A letter came twice."""
    def __init__(self, source, target, sent):
        self.source = source
        self.target = target
        self.sent = sent


class BadCut(RailsError):
    """The cut does not fit the record at this box."""
    def __init__(self, box):
        self.box = box


class NotClosed(RailsError):
    """The cut is not closed: its closure is greater at this box."""
    def __init__(self, box):
        self.box = box


class NotCome(RailsError):
    """The letter is not among those that came."""
    def __init__(self, source, target, sent):
        self.source = source
        self.target = target
        self.sent = sent


class BadSettings(RailsError):
    """A setting is missing, or one too many."""
    def __init__(self, box):
        self.box = box


class NotSeen(RailsError):
    """The event is not seen in the record."""
    def __init__(self, event):
        self.event = event


class NotAct(RailsError):
    """The event is not an act."""
    def __init__(self, event):
        self.event = event


class BadNeed(RailsError):
    """A need waits for less than 1 hour or comes twice in its row."""
    def __init__(self, act, event):
        self.act = act
        self.event = event


class BadWait(RailsError):
    """An extra wait is missing, negative or one too many."""
    def __init__(self, event):
        self.event = event


class BoundBroken(RailsError):
    """The settings of a world break this clock bound."""
    def __init__(self, later, earlier):
        self.later = later
        self.earlier = earlier


class BadWhim(RailsError):
    """What a world says of this event is missing or cannot be."""
    def __init__(self, event):
        self.event = event


class BadLate(RailsError):
    """What a world says of this wire is missing or cannot be."""
    def __init__(self, source, target):
        self.source = source
        self.target = target


class EarlyLetter(RailsError):
    """A letter would come before the target works."""
    def __init__(self, source, target, sent):
        self.source = source
        self.target = target
        self.sent = sent


class NoFault(RailsError):
    """This is no fault of the table."""
    def __init__(self, act, event):
        self.act = act
        self.event = event


class NoWait(RailsError):
    """No extra wait can mend this fault."""
    def __init__(self, act, event):
        self.act = act
        self.event = event


class BadHigh(RailsError):
    """A new high is below the low or above the present high."""
    def __init__(self, source, target):
        self.source = source
        self.target = target


class BadWish(RailsError):
    """A wish leads from a box to itself or to negative hours."""
    def __init__(self, index):
        self.index = index


class NoStretch(RailsError):
    """A wire of a straight way is missing or unbounded."""
    def __init__(self, source, target):
        self.source = source
        self.target = target


class AlreadyDone(RailsError):
    """The act is seen in the record already."""
    def __init__(self, act):
        self.act = act


class NotOpen(RailsError):
    """The box has not begun to work."""
    def __init__(self, box):
        self.box = box


class BadTear(RailsError):
    """A book cannot be torn like this."""
    def __init__(self, place, hour):
        self.place = place
        self.hour = hour


class BadText(RailsError):
    """This line of a text cannot stand in its place."""
    def __init__(self, line):
        self.line = line


class NotSeeable(RailsError):
    """An act is done, not seen."""
    def __init__(self, event):
        self.event = event


class WrongBox(RailsError):
    """The event does not happen at this box."""
    def __init__(self, event, box):
        self.event = event
        self.box = box


class NoPlacing(RailsError):
    """No placing has this difference of settings."""
    def __init__(self, least, greatest):
        self.least = least
        self.greatest = greatest


class Ring(RailsError):
    """Events wait for each other in a ring."""
    def __init__(self, events):
        super().__init__(f"{events}")
        self.events = list(events)


class Circular(RailsError):
    """Events look at each other in a ring."""
    def __init__(self, ring):
        super().__init__(f"{ring}")
        self.ring = list(ring)


class Blamed(RailsError):
    """Acts of the record were done without leave."""
    def __init__(self, acts):
        super().__init__(f"{acts}")
        self.acts = list(acts)


class Impossible(RailsError):
    """No run can hold the record: its bounds form a bad ring."""
    def __init__(self, ring):
        super().__init__(f"{ring}")
        self.ring = list(ring)


class BadOrder(RailsError):
    """The order of a place does not fit the trains that use it."""
    def __init__(self, place):
        self.place = place


class NoPlace(RailsError):
    """The line has no such place."""
    def __init__(self, place):
        self.place = place


class NotUsed(RailsError):
    """The train does not use the place."""
    def __init__(self, place, train):
        self.place = place
        self.train = train


class CannotQuicken(RailsError):
    """The wishes of one direction cannot all be met."""
    def __init__(self, east, steps):
        super().__init__(f"{east}", f"{steps}")
        self.east = east
        self.steps = list(steps)


class NoLeave(RailsError):
    """The act has no leave: a demanded event is not surely old enough."""
    def __init__(self, event, demanded, settings):
        super().__init__(f"{event}", f"{demanded}", f"{settings}")
        self.event = event
        self.demanded = demanded
        self.settings = list(settings)
