"""Cuts: how far into each box's book something goes."""

from surerails.errors import NoBox


class Cut:
    """A row of heights, one for each box."""

    def __init__(self, heights):
        self._heights = list(heights)

    def height(self, box):
        """Gives the height at the box."""
        if not 0 <= box < len(self._heights):
            raise NoBox(box)
        return self._heights[box]

    def within(self, other):
        """Tells whether each height is at most that of the other cut."""
        return all([(box, height) in other for box, height in enumerate(self._heights)])

    def __iter__(self):
        return iter(self._heights)

    def __contains__(self, moment):
        box, reading = moment
        return 0 <= box < len(self._heights) and reading <= self._heights[box]

    def __or__(self, other):
        return Cut([max(mine, yours) for mine, yours in zip(self._heights, other._heights)])

    def __and__(self, other):
        return Cut([min(mine, yours) for mine, yours in zip(self._heights, other._heights)])

    def __eq__(self, other):
        return isinstance(other, Cut) and self._heights == other._heights
