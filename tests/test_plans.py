"""Points 16 to 19: plans, their places and the numbers of their events."""

import unittest

from helpers import Case, frozen, plan_answers, spoil
from surerails.lines import Line
from surerails.plans import Plan
from surerails.trains import Train

LINE = Line(3, [(0, 1, 1, 2), (1, 0, 1, 2), (1, 2, 1, 3), (2, 1, 1, 3)])
ROOMS = [1, 2, 2]


def trains():
    """0 goes east over all stations, 1 west over two, 2 stays in the last station, 3 goes like 0."""
    return [
        Train(0, [0, 1, 0], [(2, 4), (3, None)], dwell=2),
        Train(1, [0, 0], [(2, 3)], east=False, away=(2, None)),
        Train(2, [1], []),
        Train(0, [0, 1, 0], [(2, 4), (3, None)], dwell=2),
    ]


def track_orders():
    return [[[1, 0, 3]], [[1], [3, 0]], [[0, 3], [2]]]


def section_orders():
    return [[3, 1, 0], [0, 3]]


def plan_with(**changes):
    """The plan above, with other arguments."""
    given = {
        "line": LINE, "rooms": ROOMS, "trains": trains(), "track_orders": track_orders(),
        "section_orders": section_orders(),
    }
    given.update(changes)
    return Plan(**given)


def lone(train, *, rooms=(1, 2, 2)):
    """A plan of one train over a line of three boxes, with what orders fit it."""
    return Plan(
        LINE, list(rooms), [train],
        [[[0] if (box, number) in stations(train) else [] for number in range(rooms[box])] for box in range(3)],
        [[0] if {section, section + 1} <= set(train.boxes()) else [] for section in range(2)],
    )


def stations(train):
    return list(zip(train.boxes(), train.tracks()))


class TestPlan(Case):

    def setUp(self):
        self.plan = plan_with()

    def test_attributes(self):
        self.assertEqual((self.plan.size, self.plan.clearing), (4, 1))
        self.assertEqual(self.plan.line.wires(), LINE.wires())
        self.assertEqual(plan_with(clearing=7).clearing, 7)

    def test_clearing_is_passed_by_name_alone(self):
        self.assertRaises(TypeError, Plan, LINE, ROOMS, trains(), track_orders(), section_orders(), 1)

    def test_trains(self):
        for number, train in enumerate(trains()):
            self.assertEqual(self.plan.train(number).tracks(), train.tracks())
            self.assertEqual(self.plan.train(number).start, train.start)

    def test_events_are_numbered_train_by_train(self):
        numbers = [[self.plan.event(train, number) for number in range(2 * self.plan.train(train).stations)]
                   for train in range(4)]
        self.assertEqual(numbers, [[0, 1, 2, 3, 4, 5], [6, 7, 8, 9], [10, 11], [12, 13, 14, 15, 16, 17]])

    def test_owners(self):
        owners = [self.plan.owner(event) for event in range(18)]
        expected = [(train, number) for train, count in enumerate([6, 4, 2, 6]) for number in range(count)]
        self.assertEqual(owners, expected)
        self.assertIs(type(owners[0]), tuple)

    def test_places_are_ascending(self):
        self.assertEqual(self.plan.places(), [
            ("section", 0), ("section", 1), ("track", 0, 0), ("track", 1, 0), ("track", 1, 1), ("track", 2, 0),
            ("track", 2, 1),
        ])

    def test_orders(self):
        orders = [self.plan.order(place) for place in self.plan.places()]
        self.assertEqual(orders, [[3, 1, 0], [0, 3], [1, 0, 3], [1], [3, 0], [0, 3], [2]])

    def test_stays(self):
        stays = {
            (("track", 0, 0), 0): (0, 1), (("section", 0), 0): (1, 2), (("track", 1, 1), 0): (1, 3),
            (("section", 1), 0): (3, 4), (("track", 2, 0), 0): (3, 5),
            (("track", 1, 0), 1): (6, 7), (("section", 0), 1): (7, 8), (("track", 0, 0), 1): (7, 9),
            (("track", 2, 1), 2): (10, 11),
            (("track", 0, 0), 3): (12, 13), (("section", 0), 3): (13, 14), (("track", 1, 1), 3): (13, 15),
            (("section", 1), 3): (15, 16), (("track", 2, 0), 3): (15, 17),
        }
        for place in self.plan.places():
            for train in range(4):
                if (place, train) in stays:
                    self.assertEqual(self.plan.stay(place, train), stays[place, train])
                else:
                    self.refuses("NotUsed", (place, train), lambda: self.plan.stay(place, train))

    def test_stay_of_the_document(self):
        line = Line(2, [(0, 1, 1, 2), (1, 0, 1, 2)])
        rows = [Train(0, [0, 0], [(2, 4)]), Train(1, [1, 0], [(2, 4)], east=False)]
        plan = Plan(line, [1, 2], rows, [[[0, 1]], [[0], [1]]], [[0, 1]])
        self.assertEqual(plan.stay(place=("section", 0), train=1), (5, 6))

    def test_a_train_with_one_station(self):
        plan = Plan(Line(1, []), [1], [Train(0, [0], [])], [[[0]]], [])
        self.assertEqual((plan.places(), plan.event(0, 0), plan.event(0, 1)), ([("track", 0, 0)], 0, 1))
        self.assertEqual((plan.stay(("track", 0, 0), 0), plan.owner(1)), ((0, 1), (0, 1)))

    def test_no_trains(self):
        plan = Plan(LINE, ROOMS, [], [[[]], [[], []], [[], []]], [[], []])
        self.assertEqual((plan.size, plan.order(("section", 1)), len(plan.places())), (0, [], 7))
        self.refuses("NoEvent", (0,), lambda: plan.owner(0))
        self.refuses("NoTrain", (0,), lambda: plan.train(0))

    def test_the_very_same_train_twice(self):
        train = Train(0, [0, 0], [(2, 2)])
        plan = Plan(LINE, [1, 1, 1], [train, train], [[[1, 0]], [[1, 0]], [[]]], [[1, 0], []])
        self.assertEqual((plan.stay(("section", 0), 0), plan.stay(("section", 0), 1)), ((1, 2), (5, 6)))

    def test_what_is_no_train_step_or_event(self):
        for train in (-1, 4):
            self.refuses("NoTrain", (train,), lambda: self.plan.train(train))
            self.refuses("NoTrain", (train,), lambda: self.plan.event(train, 99))
        for number in (-1, 4):
            self.refuses("NoStep", (1, number), lambda: self.plan.event(1, number))
        self.assertEqual(self.plan.event(train=1, number=3), 9)
        for event in (-1, 18):
            self.refuses("NoEvent", (event,), lambda: self.plan.owner(event))

    def test_places_that_are_none(self):
        wrong = [
            ("section", -1), ("section", 2), ("track", 0, 1), ("track", 1, 2), ("track", 3, 0), ("track", -1, 0),
            ("track", 0, -1), ("section",), ("track", 0), ("section", 0, 0), ("siding", 0), (),
        ]
        for place in wrong:
            self.refuses("NoPlace", (place,), lambda: self.plan.order(place))
            self.refuses("NoPlace", (place,), lambda: self.plan.stay(place, 99))

    def test_the_errors_of_stay_in_their_order(self):
        for train in (-1, 4):
            self.refuses("NoTrain", (train,), lambda: self.plan.stay(("section", 0), train))
        self.refuses("NotUsed", (("section", 1), 1), lambda: self.plan.stay(("section", 1), 1))


class TestWrongPlan(Case):

    def test_rooms(self):
        self.refuses("BadRooms", (0,), lambda: plan_with(rooms=[]))
        self.refuses("BadRooms", (2,), lambda: plan_with(rooms=[1, 2]))
        self.refuses("BadRooms", (1,), lambda: plan_with(rooms=[1, 0, 2]))
        self.refuses("BadRooms", (0,), lambda: plan_with(rooms=[-1, 0, 2]))
        self.refuses("BadRooms", (3,), lambda: plan_with(rooms=[1, 2, 2, 1]))
        self.refuses("BadRooms", (3,), lambda: plan_with(rooms=[1, 2, 2, 0, 0]))
        self.refuses("BadRooms", (1,), lambda: plan_with(rooms=[1, 0, 2, 5]))
        self.refuses("BadRooms", (1,), lambda: plan_with(rooms=[1, 0]))

    def test_rooms_come_before_trains_and_orders(self):
        self.refuses("BadRooms", (2,), lambda: plan_with(rooms=[1, 2], trains=[Train(9, [], [])], track_orders=[]))

    def test_trains_come_before_orders(self):
        self.refuses("BadTrain", (0,), lambda: plan_with(trains=[Train(0, [], [])], track_orders=[]))

    def test_the_least_bad_train(self):
        rows = trains()
        rows[3] = Train(0, [], [])
        self.refuses("BadTrain", (3,), lambda: plan_with(trains=rows))
        rows[1] = Train(0, [0], [], dwell=0)
        self.refuses("BadTrain", (1,), lambda: plan_with(trains=rows))

    def bad(self, train):
        self.refuses("BadTrain", (0,), lambda: lone_unchecked(train))

    def test_no_station(self):
        self.bad(Train(0, [], []))

    def test_a_station_off_the_line(self):
        self.bad(Train(-1, [0], []))
        self.bad(Train(3, [0], []))
        self.bad(Train(1, [0, 0, 0], [(2, 2), (2, 2)]))
        self.bad(Train(1, [0, 0, 0], [(2, 2), (2, 2)], east=False))
        self.assertEqual(lone(Train(1, [0, 0], [(2, 2)])).size, 1)
        self.assertEqual(lone(Train(1, [0, 0], [(2, 2)], east=False)).size, 1)

    def test_a_track_that_the_station_does_not_have(self):
        self.bad(Train(0, [1], []))
        self.bad(Train(0, [-1], []))
        self.bad(Train(0, [0, 2], [(2, 2)]))
        self.assertEqual(lone(Train(0, [0, 1], [(2, 2)])).size, 1)

    def test_the_number_of_rides(self):
        self.bad(Train(0, [0], [(1, 1)]))
        self.bad(Train(0, [0, 0], []))
        self.bad(Train(0, [0, 0], [(2, 2), (2, 2)]))

    def test_the_dwell(self):
        self.bad(Train(0, [0], [], dwell=0))
        self.bad(Train(0, [0], [], dwell=-1))
        self.assertEqual(lone(Train(0, [0], [], dwell=1)).size, 1)

    def test_the_hours_of_rides_and_of_the_going(self):
        for hours in ((0, 3), (-1, None), (0, None), (4, 3)):
            self.bad(Train(0, [0, 0, 0], [hours, (3, 3)]))
            self.bad(Train(0, [0, 0, 0], [(3, 3), hours]))
            self.bad(Train(0, [0], [], away=hours))
        for hours in ((1, 1), (3, 3), (1, None)):
            self.assertEqual(lone(Train(0, [0], [], away=hours)).size, 1)
            self.assertEqual(lone(Train(0, [0, 0], [hours])).size, 1)

    def wrong_order(self, place, **changes):
        self.refuses("BadOrder", (place,), lambda: plan_with(**changes))

    def test_an_order_that_does_not_contain_exactly_the_trains(self):
        for order in ([], [3, 1], [3, 1, 0, 2], [3, 1, 0, 0], [3, 1, 1], [3, 1, 4], [3, 1, -4], [3, 3, 1, 0]):
            self.wrong_order(("section", 0), section_orders=[order, [0, 3]])
        rows = track_orders()
        rows[2][1] = []
        self.wrong_order(("track", 2, 1), track_orders=rows)
        rows[2][1] = [2, 2]
        self.wrong_order(("track", 2, 1), track_orders=rows)

    def test_any_order_of_the_trains_will_do(self):
        self.assertEqual(plan_with(section_orders=[[0, 1, 3], [3, 0]]).order(("section", 1)), [3, 0])

    def test_missing_lists(self):
        self.wrong_order(("section", 0), section_orders=[])
        self.wrong_order(("section", 1), section_orders=section_orders()[:1])
        self.wrong_order(("track", 0, 0), track_orders=[])
        self.wrong_order(("track", 2, 0), track_orders=track_orders()[:2])
        rows = track_orders()
        rows[1] = rows[1][:1]
        self.wrong_order(("track", 1, 1), track_orders=rows)

    def test_a_missing_list_of_a_place_without_trains(self):
        empty = [[[]], [[], []], [[], []]]
        call = {"trains": [], "track_orders": empty, "section_orders": [[]]}
        self.wrong_order(("section", 1), **call)
        call = {"trains": [], "track_orders": [[[]], [[], []], [[]]], "section_orders": [[], []]}
        self.wrong_order(("track", 2, 1), **call)
        call = {"trains": [], "track_orders": empty[:2], "section_orders": [[], []]}
        self.wrong_order(("track", 2, 0), **call)

    def test_lists_too_many(self):
        self.wrong_order(("section", 2), section_orders=section_orders() + [[]])
        self.wrong_order(("section", 2), section_orders=section_orders() + [[0], [1]])
        self.wrong_order(("track", 3, 0), track_orders=track_orders() + [[]])
        self.wrong_order(("track", 3, 0), track_orders=track_orders() + [[[0]], [[]]])
        for box, count in enumerate(ROOMS):
            rows = track_orders()
            rows[box] = rows[box] + [[], [1]]
            self.wrong_order(("track", box, count), track_orders=rows)

    def test_one_box_has_no_section(self):
        train = [Train(0, [0], [])]
        self.refuses("BadOrder", (("section", 0),), lambda: Plan(Line(1, []), [1], train, [[[0]]], [[]]))

    def test_the_least_place_comes_first(self):
        rows = track_orders()
        rows[0] = [[]]
        rows[1] = rows[1] + [[]]
        self.wrong_order(("track", 0, 0), track_orders=rows)
        self.wrong_order(("section", 2), track_orders=rows, section_orders=section_orders() + [[]])
        self.wrong_order(("section", 1), track_orders=rows, section_orders=[[3, 1, 0], [0], []])
        self.wrong_order(("section", 1), track_orders=rows, section_orders=[[3, 1, 0]])
        rows = track_orders() + [[]]
        rows[1] = rows[1] + [[]]
        self.wrong_order(("track", 1, 2), track_orders=rows)
        rows[2] = [[0, 3]]
        self.wrong_order(("track", 1, 2), track_orders=rows)
        rows[1] = [[1], [0]]
        self.wrong_order(("track", 1, 1), track_orders=rows)


def lone_unchecked(train):
    """A plan whose orders fit no train at all: only its rooms and its train can be right."""
    return Plan(LINE, ROOMS, [train], [], [])


class TestCopies(Case):

    def test_passed_lists_are_neither_changed_nor_kept(self):
        given = [list(ROOMS), trains(), track_orders(), section_orders()]
        plan = Plan(LINE, *given)
        self.assertEqual((given[0], given[2:]), (ROOMS, [track_orders(), section_orders()]))
        self.assertEqual([train.boxes() for train in given[1]], [train.boxes() for train in trains()])
        before = frozen(plan_answers(plan))
        spoil(given)
        self.assertEqual(frozen(plan_answers(plan)), before)

    def test_returned_lists_are_new(self):
        plan = plan_with()
        self.same_after_spoiling(lambda: plan_answers(plan))


if __name__ == "__main__":
    unittest.main()
