"""Point 51: how everything comes that no box decides."""

import random
import unittest

from helpers import Case, frozen, random_worlds, world_answers
from surerails.lines import Line
from surerails.workings import Working
from surerails.worlds import World

LINE = Line(3, [(0, 1, 1, 2), (1, 0, 1, 3), (1, 2, 2, None)], bounds=[(2, 0, 7), (1, 2, 0), (0, 1, 9)])
WORKING = Working(LINE, [("free", 0), ("ride", 1, 0, 2, 4), ("act", 0, [(1, 1)]), ("ride", 1, 1, 3, None)])
SETTINGS = [0, 0, 1]
WHIMS = [1, 2, 0, 3]
LATES = [[1], [1, 2], [2]]


class TestWorlds(Case):

    def bad(self, name, values, *, settings=SETTINGS, whims=WHIMS, lates=LATES):
        self.refuses(name, values, lambda: World(WORKING, settings, whims, lates))

    def test_what_was_passed(self):
        world = World(WORKING, SETTINGS, WHIMS, LATES)
        self.assertEqual(world.settings(), [0, 0, 1])
        self.assertEqual(world.whims(), [1, 2, 0, 3])
        self.assertEqual(world.lates(), [[1], [1, 2], [2]])
        self.assertEqual(world.working.events(), WORKING.events())
        world = World(working=WORKING, settings=[-5, -5, -5], whims=[None, 4, None, None], lates=[[2], [3], [None, 9]])
        self.assertEqual(world.settings(), [-5, -5, -5])
        self.assertEqual(world.whims(), [None, 4, None, None])
        self.assertEqual(world.lates(), [[2], [3], [None, 9]])

    def test_a_line_without_wires_and_events(self):
        world = World(Working(Line(1, []), []), [10 ** 9], [], [])
        self.assertEqual([world.settings(), world.whims(), world.lates()], [[10 ** 9], [], []])

    def test_bad_settings(self):
        for settings in ([], [0], [0, 0]):
            self.bad("BadSettings", (len(settings),), settings=settings, whims=[], lates=[])
        for settings in ([0, 0, 0, 0], [99] * 9):
            self.bad("BadSettings", (3,), settings=settings, whims=[], lates=[])

    def test_bounds_that_the_settings_do_not_keep(self):
        self.bad("BoundBroken", (2, 0), settings=[0, 8, 8], whims=[], lates=[])
        self.bad("BoundBroken", (1, 2), settings=[0, 1, 0], whims=[], lates=[])
        self.bad("BoundBroken", (0, 1), settings=[10, 0, 0], whims=[], lates=[])
        self.bad("BoundBroken", (0, 1), settings=[10, 0, 99], whims=[], lates=[])
        self.bad("BoundBroken", (1, 2), settings=[0, 9, 8], whims=[], lates=[])
        self.assertEqual(World(WORKING, [0, 0, 7], WHIMS, [[1], [1], [7]]).settings(), [0, 0, 7])
        working = Working(Line(2, [], bounds=[(0, 1, 9)]), [])
        self.assertEqual(World(working, [9, 0], [], []).settings(), [9, 0])
        self.assertEqual(World(working, [-9, 0], [], []).settings(), [-9, 0])
        self.refuses("BoundBroken", (0, 1), lambda: World(working, [10, 0], [], []))

    def test_whims_that_may_be(self):
        for whims in ([0, 2, 0, 3], [10 ** 9, 4, 10 ** 9, 10 ** 9], [None, 3, None, None]):
            self.assertEqual(World(WORKING, SETTINGS, whims, LATES).whims(), whims)

    def test_bad_whims(self):
        for whims, event in [
            ([], 0), ([1, 2, 0], 3), ([1], 1), ([-1, 2, 0, 3], 0), ([1, 1, 0, 3], 1), ([1, 5, 0, 3], 1),
            ([1, None, 0, 3], 1), ([1, 2, -1, 3], 2), ([1, 2, 0, 2], 3), ([1, 2, 0, -3], 3),
            ([1, 2, 0, 3, 0], 4), ([1, 2, 0, 3, 0, 0, 0], 4), ([1, 0, -1], 1), ([-1, 0, 0, 0, 0], 0),
        ]:
            self.bad("BadWhim", (event,), whims=whims, lates=[])

    def test_lists_of_lateness_that_may_be(self):
        for lates in ([[1, 2], [1], [2]], [[2], [3, 1, 2], [None]], [[1], [1], [10 ** 9, None, 2]]):
            self.assertEqual(World(WORKING, SETTINGS, WHIMS, lates).lates(), lates)

    def test_bad_lates(self):
        for lates, pair in [
            ([], (0, 1)), ([[1]], (1, 0)), ([[1], [1]], (1, 2)), ([[], [1], [2]], (0, 1)), ([[1], [1], []], (1, 2)),
            ([[0], [1], [2]], (0, 1)), ([[1, 3], [1], [2]], (0, 1)), ([[1], [1, None], [2]], (1, 0)),
            ([[1], [4], [2]], (1, 0)), ([[1], [1], [1]], (1, 2)), ([[1], [1], [None, 2, 1]], (1, 2)),
            ([[1], [0], []], (1, 0)), ([[1], [1], [2], [1]], (3, 3)), ([[1], [1], [2], []], (3, 3)),
            ([[1], [1], [1], [1]], (1, 2)),
        ]:
            self.bad("BadLate", pair, lates=lates)

    def test_letters_that_come_too_early(self):
        for settings, lates, values in [
            ([0, 2, 2], [[1], [1], [2]], (0, 1, 0)), ([0, 2, 2], [[2, 1], [1], [2]], None),
            ([0, 3, 3], [[2, 1], [1], [2]], (0, 1, 0)), ([0, 2, 2], [[2], [1], [2]], None),
            ([4, 4, 7], [[2], [1], [3, 2, 2]], None), ([4, 4, 7], [[2], [1], [3, 3, 2, 2]], None),
            ([4, 4, 8], [[2], [1], [9, 2, 2]], (1, 2, 1)), ([4, 4, 8], [[2], [1], [None, None, 2]], None),
            ([4, 4, 9], [[2], [1], [9, None, 2, 2]], (1, 2, 2)), ([4, 2, 2], [[1], [1, 1], [2]], (1, 0, 0)),
            ([4, 2, 2], [[1], [2, 1], [2]], None), ([5, 2, 2], [[1], [3, 1], [2]], (1, 0, 1)),
        ]:
            if values is None:
                self.assertEqual(World(WORKING, settings, WHIMS, lates).lates(), lates)
            else:
                self.bad("EarlyLetter", values, settings=settings, lates=lates)

    def test_the_errors_in_their_order(self):
        self.bad("BadSettings", (2,), settings=[10, 0], whims=[], lates=[])
        self.bad("BoundBroken", (0, 1), settings=[10, 0, 0], whims=[], lates=[])
        self.bad("BadWhim", (0,), settings=[0, 2, 2], whims=[], lates=[])
        self.bad("BadWhim", (4,), settings=[0, 2, 2], whims=WHIMS + [0], lates=[])
        self.bad("BadLate", (1, 2), settings=[0, 2, 2], lates=[[1], [1]])
        self.bad("BadLate", (3, 3), settings=[0, 2, 2], lates=LATES + [[1]])
        self.bad("EarlyLetter", (0, 1, 0), settings=[0, 2, 2])
        self.bad("EarlyLetter", (0, 1, 0), settings=[0, 2, 9 - 2], lates=[[1], [1], [2]])


class TestCopies(Case):

    def test_lists_that_are_passed_are_copied_and_not_changed(self):
        settings, whims, lates = [0, 0, 1], [1, 2, 0, 3], [[1], [1, 2], [2]]
        world = World(WORKING, settings, whims, lates)
        before = frozen(world_answers(world))
        self.assertEqual((settings, whims, lates), ([0, 0, 1], [1, 2, 0, 3], [[1], [1, 2], [2]]))
        settings[0] = 9
        whims.clear()
        lates[1].append(77)
        lates.pop()
        self.assertEqual(frozen(world_answers(world)), before)

    def test_every_list_is_new(self):
        for world in random_worlds(random.Random(150), 20):
            self.same_after_spoiling(lambda: world_answers(world))


if __name__ == "__main__":
    unittest.main()
