"""Point 16: trains."""

import unittest

from helpers import Case, frozen, spoil, train_answers
from surerails.trains import Train


class TestTrain(Case):

    def test_an_eastward_train(self):
        train = Train(1, [0, 2, 1], [(2, 4), (3, None)], east=True, dwell=5, away=(2, None))
        self.assertEqual(train_answers(train), [
            1, True, 5, (2, None), 3, [0, 2, 1], [(2, 4), (3, None)], [1, 2, 3],
        ])

    def test_a_westward_train(self):
        train = Train(3, [1, 0, 0, 2], [(1, 1), (2, 2), (3, 3)], east=False)
        self.assertEqual(train.boxes(), [3, 2, 1, 0])
        self.assertEqual((train.east, train.stations), (False, 4))

    def test_what_is_left_out(self):
        train = Train(0, [0], [])
        self.assertEqual((train.east, train.dwell, train.away), (True, 1, (1, 1)))

    def test_what_is_passed_by_name(self):
        train = Train(start=2, tracks=[1], rides=[])
        self.assertEqual((train.start, train.tracks(), train.rides()), (2, [1], []))
        self.assertRaises(TypeError, Train, 0, [0], [], True)

    def test_a_train_with_one_station(self):
        for east in (True, False):
            train = Train(4, [7], [], east=east)
            self.assertEqual((train.stations, train.boxes(), train.rides()), (1, [4], []))

    def test_the_constructor_raises_no_error(self):
        train = Train(-3, [], [(0, -5)] * 3, east=False, dwell=-2, away=(0, -1))
        self.assertEqual((train.stations, train.boxes(), train.tracks()), (0, [], []))
        self.assertEqual((train.dwell, train.away, train.rides()), (-2, (0, -1), [(0, -5)] * 3))
        self.assertEqual(Train(1, [0, 0, 0], [], east=False).boxes(), [1, 0, -1])


class TestCopies(Case):

    def test_passed_lists_are_neither_changed_nor_kept(self):
        tracks, rides = [0, 2], [(2, 4)]
        train = Train(0, tracks, rides)
        self.assertEqual((tracks, rides), ([0, 2], [(2, 4)]))
        before = frozen(train_answers(train))
        spoil(tracks)
        spoil(rides)
        self.assertEqual(frozen(train_answers(train)), before)

    def test_returned_lists_are_new(self):
        train = Train(0, [0, 2], [(2, 4)])
        self.same_after_spoiling(lambda: train_answers(train))


if __name__ == "__main__":
    unittest.main()
