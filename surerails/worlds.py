"""Worlds: how everything comes that no box decides."""

from surerails.checks import check_settings
from surerails.errors import BadLate, BadWhim, BoundBroken, EarlyLetter


class World:
    """The settings of the clocks, the whim of each event and the lateness of the letters of each wire."""

    def __init__(self, working, settings, whims, lates):
        check_settings(working.line, settings)
        _check_told(working.line, settings)
        _check_whims(working, whims)
        _check_lates(working.line, lates)
        _check_early(working.line, settings, lates)
        self.working = working
        self._settings = list(settings)
        self._whims = list(whims)
        self._lates = [list(row) for row in lates]

    def settings(self):
        """Lists the settings of the boxes."""
        return list(self._settings)

    def whims(self):
        """Lists for each event its reading, its hours behind its cause or its pause, or None."""
        return list(self._whims)

    def lates(self):
        """Lists for each wire the hours by which its letters are late, in turn; None for one that never comes."""
        return [list(row) for row in self._lates]


def _check_told(line, settings):
    for later, earlier, most in line.bounds():
        if settings[later] - settings[earlier] > most:
            raise BoundBroken(later, earlier)


def _check_whims(working, whims):
    for event in range(working.size):
        if event >= len(whims) or not _is_whim(working, event, whims[event]):
            raise BadWhim(event)
    if len(whims) > working.size:
        raise BadWhim(working.size)


def _is_whim(working, event, whim):
    link = working.cause(event)
    if link is None:
        return whim is None or whim >= 0
    return _is_between(whim, link[1], link[2])


def _is_between(hours, low, high):
    """Tells whether the hours are allowed; None, which means never, is so if there is no high."""
    if hours is None or high is None:
        return high is None and (hours is None or hours >= low)
    return low <= hours <= high


def _check_lates(line, lates):
    wires = line.wires()
    for number, (source, target, low, high) in enumerate(wires):
        if number >= len(lates) or not lates[number]:
            raise BadLate(source, target)
        if not all([_is_between(late, low, high) for late in lates[number]]):
            raise BadLate(source, target)
    if len(lates) > len(wires):
        raise BadLate(line.size, line.size)


def _check_early(line, settings, lates):
    for (source, target, _, _), row in zip(line.wires(), lates):
        # Each entry comes earliest when it is used for the first time.
        for sent, late in enumerate(row):
            if late is not None and settings[source] + sent + late < settings[target]:
                raise EarlyLetter(source, target, sent)
