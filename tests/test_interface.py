"""The interface: each name in its file, with its arguments, and each method in its own class."""

import importlib
import inspect
import unittest

FUNCTIONS = {
    "lags": ["lag(line, source, target, *, late=False)", "lag_way(line, source, target, *, late=False)",
             "round_trip(line, box)"],
    "workings": ["bounded_chain(working, event)"],
    "rings": ["find_ring(working)", "is_ring(working, events)"],
    "needs": ["hours_between(working, first, second)", "needed_demands(working)", "thinned(working)"],
    "translation": ["working_of(plan)"],
    "books": ["is_closed(record, cut)", "closure_of(record, cut)", "book_of(record, box, reading)",
              "books_together(record, moments)"],
    "hearing": ["trail_of(record, first, second)", "is_trail(record, first, second, hops)",
                "heard_at(record, moment, box)", "letter_news(record, source, target, sent)"],
    "bounds": ["bounds_of(record)", "is_placing(record, settings)", "broken_bounds(record, settings)"],
    "ways": ["widest(record, first, second)", "find_bad_ring(record)", "is_bad_ring(record, ring)",
             "is_possible(record)"],
    "placings": ["latest_placing(record, box, *, far=0)", "earliest_placing(record, box, *, far=0)",
                 "placing_with(record, first, second, hours)", "ticks_left(record, box)"],
    "continuing": ["continuation(record, settings)",
                   "is_other_run(record, box, now, event, hours, settings)"],
    "knowing": ["surely(record, box, now, event, hours)",
                "is_certificate(record, box, now, event, hours, certificate)",
                "sure_age(record, box, now, event)", "sure_from(record, box, event, hours)"],
    "ages": ["age_span(record, box, now, event)", "hours_apart(record, first, second)"],
    "eves": ["eve_of(record, box, reading)"],
    "freest": ["refusal(record, now, act)"],
    "tables": ["news_table(working)"],
    "combining": ["covers(first, second)", "merge_tables(first, second)", "cross_tables(first, second)"],
    "blame": ["leaves(record, rule, box, reading)", "blamed(record, rule)", "culprits(record, rule)"],
    "driving": ["drive(world, rule, hours)"],
    "extremes": ["earliest_hours(table)", "extreme_hours(table, event)"],
    "margins": ["margin(table, act, event)", "faults(table)", "is_safe_table(table)"],
    "counters": ["counter_world(table, act, event)"],
    "mending": ["least_waits(table)"],
    "latest": ["latest_hours(table)", "broken_promises(table, promises)", "worst_world(working)"],
    "through": ["deaf_demands(working)", "gets_through(working)", "stuck_world(working)"],
    "wishes": ["quicken(line, wishes)", "quickened(line, highs)"],
    "handing": ["refusal_with(record, act, boxes)", "fewest_books(record, act)"],
    "tears": ["torn_book(record, box, place, hour, now)", "whole_at(record, box, place, hour)"],
    "clashes": ["clash(plan, record)", "look(plan, record)"],
    "writing": ["format_working(working)", "format_record(record)"],
    "reading": ["parse_working(text)", "parse_record(text)"],
    "deeds": ["format_deeds(deeds)", "parse_deeds(text)"],
    "journals": ["replay(working, deeds)", "attempt(desk, deeds)", "deeds_of(record)"],
}
CLASSES = {
    "lines.Line": ["__init__(self, size, wires, *, bounds=())", "wires(self)", "bounds(self)",
                   "wire(self, source, target)", "sources(self, box)", "targets(self, box)"],
    "workings.Working": ["__init__(self, line, events)", "box_of(self, event)", "kind(self, event)",
                         "cause(self, event)", "demands(self, event)", "followers(self, event)",
                         "events_at(self, box)", "events(self)"],
    "trains.Train": ["__init__(self, start, tracks, rides, *, east=True, dwell=1, away=(1, 1))",
                     "tracks(self)", "boxes(self)", "rides(self)"],
    "plans.Plan": ["__init__(self, line, rooms, trains, track_orders, section_orders, *, clearing=1)",
                   "train(self, number)", "event(self, train, number)", "owner(self, event)", "places(self)",
                   "order(self, place)", "stay(self, place, train)"],
    "cuts.Cut": ["__init__(self, heights)", "__iter__(self)", "__or__(self, other)", "__and__(self, other)",
                 "__eq__(self, other)", "__contains__(self, moment)", "height(self, box)", "within(self, other)"],
    "records.Record": ["__init__(self, working, heights, *, seen=(), letters=())", "heights(self)", "seen(self)",
                       "letters(self)", "height(self, box)", "first_missing(self, source, target)",
                       "reading(self, event)", "come(self, source, target, sent)", "part(self, cut)"],
    "freest.Freest": ["allows(self, record, now, act)"],
    "tables.Table": ["__init__(self, working, rows)", "allows(self, record, now, act)", "rows(self)",
                     "rows_of(self, act)", "with_waits(self, extras)"],
    "rules.Either": ["__init__(self, first, second)", "allows(self, record, now, act)"],
    "rules.Both": ["__init__(self, first, second)", "allows(self, record, now, act)"],
    "rules.Honest": ["__init__(self, rule)", "allows(self, record, now, act)"],
    "desk.Desk": ["__init__(self, working)", "record(self)", "present(self, box)", "verdict(self, act)",
                  "may_act(self)", "tick(self, box, *, letters=(), events=())", "act(self, event)", "undo(self)",
                  "redo(self)", "journal(self)"],
    "worlds.World": ["__init__(self, working, settings, whims, lates)", "settings(self)", "whims(self)",
                     "lates(self)"],
}


class TestInterface(unittest.TestCase):

    def test_functions(self):
        for name, rows in FUNCTIONS.items():
            module = importlib.import_module("surerails." + name)
            for row in rows:
                function = getattr(module, row.split("(")[0])
                self.assertEqual(function.__name__ + str(inspect.signature(function)), row)
                self.assertEqual(function.__module__, module.__name__)

    def test_classes(self):
        for path, rows in CLASSES.items():
            module = importlib.import_module("surerails." + path.split(".")[0])
            found = getattr(module, path.split(".")[1])
            self.assertEqual(found.__module__, module.__name__)
            for row in rows:
                method = vars(found)[row.split("(")[0]]
                self.assertEqual(method.__name__ + str(inspect.signature(method)), row)


if __name__ == "__main__":
    unittest.main()
