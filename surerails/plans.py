"""The plan: which trains run, and in which order they take each place."""

from surerails.errors import BadOrder, BadRooms, BadTrain, NoEvent, NoPlace, NoStep, NotUsed, NoTrain
from surerails.lines import is_span


class Plan:
    """Trains on a line, with the order of the trains at each track and section."""

    def __init__(self, line, rooms, trains, track_orders, section_orders, *, clearing=1):
        _check_rooms(line, rooms)
        _check_trains(line, rooms, trains)
        self.line = line
        self.size = len(trains)
        self.clearing = clearing
        self._trains = list(trains)
        self._firsts = _first_events(trains)
        self._stays = _stays_by_place(rooms, trains, self._firsts)
        self._orders = _checked_orders(rooms, self._stays, track_orders, section_orders)

    def train(self, number):
        """Gives a train."""
        self._check_train(number)
        return self._trains[number]

    def event(self, train, number):
        """Gives the number that an event of the train has in the working."""
        self._check_train(train)
        if not 0 <= number < 2 * self._trains[train].stations:
            raise NoStep(train, number)
        return self._firsts[train] + number

    def owner(self, event):
        """Gives the pair (train, number) of an event of the working."""
        for train, first in enumerate(self._firsts):
            if first <= event < first + 2 * self._trains[train].stations:
                return (train, event - first)
        raise NoEvent(event)

    def places(self):
        """Lists all places of the line, ascending."""
        return list(self._stays)

    def order(self, place):
        """Lists the trains that use the place, in the order in which they take it."""
        self._check_place(place)
        return list(self._orders[place])

    def stay(self, place, train):
        """Gives the pair of the events with which the train's hold of the place begins and ends."""
        self._check_place(place)
        self._check_train(train)
        if train not in self._stays[place]:
            raise NotUsed(place, train)
        return self._stays[place][train]

    def _check_train(self, train):
        if not 0 <= train < self.size:
            raise NoTrain(train)

    def _check_place(self, place):
        if place not in self._stays:
            raise NoPlace(place)


def _check_rooms(line, rooms):
    for box in range(line.size):
        if box >= len(rooms) or rooms[box] < 1:
            raise BadRooms(box)
    if len(rooms) > line.size:
        raise BadRooms(line.size)


def _check_trains(line, rooms, trains):
    for number, train in enumerate(trains):
        if not _can_run(line, rooms, train):
            raise BadTrain(number)


def _can_run(line, rooms, train):
    if train.stations < 1 or train.dwell < 1 or len(train.rides()) != train.stations - 1:
        return False
    for box, track in zip(train.boxes(), train.tracks()):
        if not 0 <= box < line.size or not 0 <= track < rooms[box]:
            return False
    return all([is_span(low, high) for low, high in train.rides() + [train.away]])


def _first_events(trains):
    firsts = []
    total = 0
    for train in trains:
        firsts.append(total)
        total += 2 * train.stations
    return firsts


def _places(rooms):
    sections = [("section", box) for box in range(len(rooms) - 1)]
    tracks = [("track", box, number) for box, count in enumerate(rooms) for number in range(count)]
    return sections + tracks


def _stays_by_place(rooms, trains, firsts):
    """Gives for each place, ascending, the pair of events of each train that uses it."""
    stays = {place: {} for place in _places(rooms)}
    for number, train in enumerate(trains):
        for place, begin, end in _stays_of(train):
            stays[place][number] = (firsts[number] + begin, firsts[number] + end)
    return stays


def _stays_of(train):
    """Lists the places of the train with the events that begin and end its hold, counted from its own first one."""
    tracks = [(train.track_at(k), max(0, 2 * k - 1), 2 * k + 1) for k in range(train.stations)]
    sections = [(train.section_after(k), 2 * k + 1, 2 * k + 2) for k in range(train.stations - 1)]
    return tracks + sections


def _checked_orders(rooms, stays, track_orders, section_orders):
    orders = {("section", box): list(order) for box, order in enumerate(section_orders)}
    for box, rows in enumerate(track_orders):
        for number, order in enumerate(rows):
            orders["track", box, number] = list(order)
    wrong = [
        place for place, users in stays.items() if place not in orders or sorted(orders[place]) != sorted(users)
    ]
    wrong = wrong + _surplus_places(rooms, track_orders, section_orders)
    if wrong:
        raise BadOrder(min(wrong))
    return orders


def _surplus_places(rooms, track_orders, section_orders):
    """Lists the places that the line does not have, but the orders do: the first one of each list."""
    size = len(rooms)
    surplus = [
        ("track", box, count) for box, (count, orders) in enumerate(zip(rooms, track_orders)) if len(orders) > count
    ]
    if len(track_orders) > size:
        surplus.append(("track", size, 0))
    if len(section_orders) > size - 1:
        surplus.append(("section", size - 1))
    return surplus
