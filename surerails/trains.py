"""Trains, from station to station in one direction."""


class Train:
    """A train that enters at the box start and leaves the line at its last station."""

    def __init__(self, start, tracks, rides, *, east=True, dwell=1, away=(1, 1)):
        self.start = start
        self.east = east
        self.dwell = dwell
        self.away = tuple(away)
        self.stations = len(tracks)
        self._tracks = list(tracks)
        self._rides = [(low, high) for low, high in rides]

    def tracks(self):
        """Lists the numbers of the tracks, in the order of travel."""
        return list(self._tracks)

    def rides(self):
        """Lists the pairs (low, high) of the rides, in the order of travel."""
        return list(self._rides)

    def boxes(self):
        """Lists the boxes of the stations, in the order of travel."""
        if self.east:
            return list(range(self.start, self.start + self.stations))
        return list(range(self.start, self.start - self.stations, -1))

    def track_at(self, station):
        """Gives the place of the train in one of its stations, counted from 0."""
        return ("track", self.boxes()[station], self._tracks[station])

    def section_after(self, station):
        """Gives the place between one of its stations and the next one."""
        boxes = self.boxes()
        return ("section", min(boxes[station], boxes[station + 1]))
