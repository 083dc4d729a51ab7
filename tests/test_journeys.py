"""[8.1] Journeys and counts: are_journeys, held, wanted, and which values are counts."""

import unittest

from clearline.errors import BadCount
from clearline.journeys import (
    are_journeys, count_holds, going_holds, going_trains, held, is_homely, judge_count, judge_going, wanted,
)
from clearline.plans import read_plan
from clearline.routes import berth_of, overlap_of, routes
from tests import box_oracle
from tests.layouts import LINE, PLANS
from tests.samples import (
    ANY_VALUES, EMPTY, GOOD_NAMES, LOOP, WRONG_NAMES, changed, raises, same_calls, wrong_kinds, wrong_lengths,
)
from tests.trains import (
    BOTH, FACING, LEFT, LOOP_TABLE, SAMPLES, STATION, YARD, YARDERS, all_counts, journey_rows, path, random_samples,
)

# One gate; a train comes in there, goes round and leaves there again.
TURN = read_plan(
    "stretch w plain\nstretch p points\nstretch a plain\nstretch b plain\njoin w 1 p 0\njoin p 1 a 0\n"
    "join a 1 b 0\njoin b 1 p 2\ngate west w 0\nsignal s a 1\nsignal t b 1\nsignal u b 0"
)
COUNT_CALLS = {
    held: {}, wanted: {}, judge_count: {}, count_holds: {"thing": None}, is_homely: {}, judge_going: {"train": "one"},
    going_holds: {"train": "one", "thing": None}, going_trains: {},
}


class JourneysTest(unittest.TestCase):
    def assert_are_journeys(self, plan, thing, expected):
        with self.subTest(thing=thing):
            same_calls(self, are_journeys, {"plan": plan, "thing": thing}, expected)
            self.assertIs(are_journeys(plan, thing), expected)

    def assert_no_journeys(self, plan, *things):
        for thing in things:
            self.assert_are_journeys(plan, thing, False)

    def test_journeys(self):
        for plan, journeys in SAMPLES:
            self.assert_are_journeys(plan, journeys, True)
            self.assert_are_journeys(plan, journeys[::-1], True)
            self.assert_are_journeys(plan, journeys[:1], True)
        for plan in PLANS:
            self.assert_are_journeys(plan, (), True)
            for row in journey_rows(plan)[:30]:
                self.assert_are_journeys(plan, (("t", row),), True)
                self.assert_are_journeys(plan, (("t", row), ("u", row)), True)

    def test_of_another_plan(self):
        self.assert_no_journeys(EMPTY, BOTH)
        self.assert_no_journeys(LINE, BOTH)
        self.assert_no_journeys(LOOP, FACING)

    def test_trains(self):
        row = BOTH[0][1]
        for name in GOOD_NAMES:
            self.assert_are_journeys(LOOP, ((name, row),), True)
        for name in WRONG_NAMES:
            self.assert_no_journeys(LOOP, ((name, row),), (("t", row), (name, row)))
        # A train may be called like a stretch, a gate or a signal.
        self.assert_are_journeys(LOOP, (("a", row), ("west", row), ("sa", row)), True)

    def test_a_train_twice(self):
        self.assert_no_journeys(
            LOOP, BOTH[:1] * 2, BOTH + BOTH[:1], (("t", BOTH[0][1]), ("u", BOTH[0][1]), ("t", BOTH[1][1])))

    def test_no_routes(self):
        self.assert_no_journeys(LOOP, (("t", ()),), BOTH + (("t", ()),))

    def test_the_first_route_begins_at_a_gate(self):
        self.assert_no_journeys(LOOP, (("t", BOTH[0][1][1:]),), (("t", (LOOP_TABLE[5],)),), (("t", BOTH[1][1][::-1]),))

    def test_the_next_route_begins_where_the_last_one_ends(self):
        one, two = BOTH[0][1], BOTH[1][1]
        self.assert_no_journeys(LOOP, (("t", (one[0], two[1])),), (("t", (two[0], one[1])),))
        self.assert_no_journeys(LOOP, (("t", (one[0], one[0], one[1])),), (("t", (one[0], one[1], one[1])),))

    def test_the_next_route_begins_at_a_signal(self):
        # Both end and begin at the gate where they meet.
        self.assert_no_journeys(LOOP, (("t", (LOOP_TABLE[1], LOOP_TABLE[2])),), (("t", BOTH[0][1] + (LOOP_TABLE[2],)),))
        turn = path(TURN, "west", "s", "t", "west")
        self.assert_are_journeys(TURN, (("t", turn),), True)
        self.assert_no_journeys(TURN, (("t", turn + turn),))

    def test_the_last_route_ends_at_a_gate(self):
        self.assert_no_journeys(LOOP, (("t", BOTH[0][1][:1]),))
        self.assert_no_journeys(STATION, (("t", path(STATION, "west", "ae", "ce")),))
        self.assert_are_journeys(STATION, (("t", path(STATION, "west", "ae", "ce", "east")),), True)

    def test_something_that_is_no_route(self):
        start, steps, end = LOOP_TABLE[1]
        for route in (
            (start, steps[:-1], end), (start, steps[1:], end), ("east", steps, end), (start, steps, "west"),
            (start, steps[::-1], end), (start, (), end), (start, steps), [start, steps, end], (start, [*steps], end),
            None, (), "west", 0,
        ):
            self.assert_no_journeys(LOOP, (("t", (route,)),), (("t", (LOOP_TABLE[0], route)),))

    def test_lists_bools_and_other_kinds(self):
        for journeys in (BOTH, LEFT):
            self.assert_no_journeys(LOOP, *wrong_kinds(journeys))
        self.assert_no_journeys(
            LOOP, changed(BOTH, (0, 1, 0, 1, 0, 1), False), changed(BOTH, (0, 1, 0, 1, 0, 2), True))

    def test_other_lengths(self):
        self.assert_no_journeys(LOOP, *wrong_lengths(BOTH, lambda place: place == ()))
        for more in ANY_VALUES:
            self.assert_no_journeys(LOOP, BOTH + (more,), (more,) + BOTH, (("t", BOTH[0][1] + (more,)),))

    def test_any_values(self):
        for value in ANY_VALUES:
            self.assert_are_journeys(LOOP, value, value == () and isinstance(value, tuple))
        self.assert_no_journeys(LOOP, LOOP, LOOP_TABLE, BOTH[0], BOTH[0][1], (BOTH,), ((),))
        for place in ((0,), (0, 0), (0, 1), (0, 1, 0), (0, 1, 0, 0), (0, 1, 0, 1), (0, 1, 0, 1, 0), (0, 1, 0, 2)):
            for value in ANY_VALUES:
                if place != (0, 0) or value != "a":
                    self.assert_no_journeys(LOOP, changed(BOTH, place, value))


class CountsTest(unittest.TestCase):
    def assert_count(self, plan, journeys, count, is_one):
        for function, more in COUNT_CALLS.items():
            arguments = {"plan": plan, "journeys": journeys, "count": count, **more}
            if "train" in more:
                arguments["train"] = journeys[0][0]
            with self.subTest(function.__name__, count=count):
                if is_one:
                    function(**arguments)
                else:
                    raises(self, function, arguments, BadCount, count)

    def test_counts(self):
        for count in all_counts(BOTH):
            self.assert_count(LOOP, BOTH, count, True)

    def test_no_counts(self):
        for count in (
            (), (0,), (0, 0, 0), (1, 1, 1), (-1, 0), (0, -1), (3, 0), (0, 3), (10 ** 39, 0), (True, 1), (1, False),
            (False, False), [0, 0], ("0", 0), (None, 0), ((0,), 0), {0: 0, 1: 0}, ((0, 0),), (0, (0,)),
        ):
            self.assert_count(LOOP, BOTH, count, False)
        for value in ANY_VALUES:
            self.assert_count(LOOP, BOTH, value, False)
            self.assert_count(LOOP, BOTH, (0, value), type(value) is int and 0 <= value <= 2)
        # Each number has the bound of its own train.
        self.assert_count(LOOP, LEFT, (2, 1), True)
        self.assert_count(LOOP, LEFT, (1, 2), False)

    def test_counts_of_no_train(self):
        for function, more in COUNT_CALLS.items():
            if "train" not in more:
                function(LOOP, (), (), **more)
                for count in ((0,), [], None, 0, "", {}):
                    raises(self, function, {"plan": LOOP, "journeys": (), "count": count, **more}, BadCount, count)


class HeldTest(unittest.TestCase):
    def assert_held(self, plan, journeys, count, stretches):
        same_calls(self, held, {"plan": plan, "journeys": journeys, "count": count}, stretches)

    def assert_wanted(self, plan, journeys, count, stretches):
        same_calls(self, wanted, {"plan": plan, "journeys": journeys, "count": count}, stretches)

    def test_outside_standing_and_home(self):
        for count, stretches in (
            ((0, 0), ((), ())), ((1, 0), (("a",), ())), ((1, 1), (("a",), ("b",))), ((2, 1), ((), ("b",))),
            ((2, 2), ((), ())),
        ):
            self.assert_held(LOOP, BOTH, count, stretches)
        for count, stretches in (
            ((0, 0), (("a", "e", "p", "q", "w"), ("b", "e", "p", "q", "w"))), ((1, 2), (("e", "q"), ())),
            ((0, 1), (("a", "e", "p", "q", "w"), ("p", "w"))), ((2, 2), ((), ())),
        ):
            self.assert_wanted(LOOP, BOTH, count, stretches)

    def test_with_an_overlap(self):
        # s has one, r has none; a train wants the overlap that it holds, and its berth no longer.
        self.assert_held(LINE, FACING, (1, 0), (("a", "o"), ()))
        self.assert_held(LINE, FACING, (1, 1), (("a", "o"), ("b",)))
        self.assert_held(LINE, FACING, (2, 2), ((), ()))
        self.assert_wanted(LINE, FACING, (0, 0), (("a", "b", "o"), ("a", "b", "o")))
        self.assert_wanted(LINE, FACING, (1, 1), (("b", "o"), ("a", "o")))
        self.assert_held(YARD, YARDERS, (1, 0, 1, 2), (("a", "x"), (), ("d", "x"), ("b", "o")))
        self.assert_wanted(YARD, YARDERS, (1, 1, 1, 2), (("b", "k", "o", "x"), ("d", "x"), ("c", "x"), ("k", "o")))

    def test_of_no_train(self):
        self.assert_held(LOOP, (), (), ())
        self.assert_wanted(EMPTY, (), (), ())

    def test_names_are_sorted(self):
        # The berth comes behind the overlap here, and in the plan.
        plan = read_plan(
            "stretch z plain\nstretch a plain\njoin z 1 a 0\ngate g z 0\ngate h a 1\nsignal s z 1 over a 0 1")
        journeys = (("t", path(plan, "g", "s", "h")),)
        self.assert_held(plan, journeys, (1,), (("a", "z"),))
        self.assert_wanted(plan, journeys, (0,), (("a", "z"),))

    def test_all_counts(self):
        for plan, journeys in [*SAMPLES, *random_samples(60, 31)]:
            for count in list(all_counts(journeys))[::7]:
                places = range(len(journeys))
                mine = tuple(tuple(sorted(box_oracle.held(plan, journeys, count, at))) for at in places)
                self.assertEqual(held(plan, journeys, count), mine)
                mine = tuple(tuple(sorted(box_oracle.wanted(plan, journeys, count, at))) for at in places)
                self.assertEqual(wanted(plan, journeys, count), mine)

    def test_they_hold_the_berth_and_the_overlap(self):
        for plan, journeys in SAMPLES:
            for at, (_, row) in enumerate(journeys):
                for gone, route in enumerate(row[:-1], start=1):
                    count = (0,) * at + (gone,) + (0,) * (len(journeys) - at - 1)
                    names = [berth_of(plan, route)] + [step[0] for step in overlap_of(plan, route)]
                    self.assertEqual(held(plan, journeys, count)[at], tuple(sorted(names)))

    def test_routes_of_the_samples_are_in_the_table(self):
        for plan, journeys in SAMPLES:
            for _, row in journeys:
                self.assertLessEqual(set(row), set(routes(plan)))


if __name__ == "__main__":
    unittest.main()
