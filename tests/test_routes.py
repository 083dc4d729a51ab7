"""[3.1] Routes: is_route, and BadRoute of the functions that take a route."""

import unittest

from clearline.errors import BadRoute
from clearline.plans import read_plan
from clearline.routes import berth_of, do_bar, is_route, lies_of, needs, overlap_of, routes
from tests import oracle
from tests.layouts import (
    CROSS, FACES, LADDER, LINE, NO_GATES, PLANS, RING, TIPS, random_plans, ways_of_plan,
)
from tests.samples import (
    ANY_VALUES, EMPTY, LOOP, WRONG_NAMES, changed, raises, same_calls, wrong_kinds, wrong_lengths,
)

TABLE = routes(LOOP)
# From gate to gate the track leads over the crossing twice; here it leads back onto p; and here it is a ring of two.
KNOT_TEXT = (
    "stretch a plain\nstretch x crossing\nstretch b plain\nstretch c plain\n"
    "join a 1 x 0\njoin x 1 b 0\njoin b 1 x 2\njoin x 3 c 0\ngate g a 0\ngate h c 1"
)
TURN_TEXT = "stretch w plain\nstretch p points\nstretch a plain\njoin w 1 p 0\njoin p 1 a 0\njoin p 2 a 1\ngate g w 0"
TWO_TEXT = "stretch a plain\nstretch b plain\njoin a 1 b 0\njoin b 1 a 0"


class RouteTest(unittest.TestCase):
    def assert_is_route(self, plan, thing, expected):
        with self.subTest(thing=thing):
            same_calls(self, is_route, {"plan": plan, "thing": thing}, expected)
            self.assertIs(is_route(plan, thing), expected)

    def assert_no_routes(self, plan, *things):
        for thing in things:
            self.assert_is_route(plan, thing, False)


class ClausesTest(RouteTest):
    def test_routes(self):
        for plan in PLANS:
            for route in routes(plan):
                self.assert_is_route(plan, route, True)

    def test_the_first_way(self):
        self.assert_no_routes(
            LOOP,
            ("west", (("p", 0, 1), ("a", 0, 1)), "sa"),
            ("west", (("a", 0, 1),), "sa"),
            ("west", (("w", 1, 0),), "west"),
            ("west", (("e", 1, 0), ("q", 0, 2), ("b", 1, 0)), "sb"),
            ("sa", (("e", 0, 1),), "east"),
            ("sa", (("q", 2, 0), ("e", 0, 1)), "east"),
        )
        # Not at the signal's own end, and not where the other end of its stretch leads.
        self.assert_no_routes(
            LINE,
            ("s", (("a", 1, 0),), "west"),
            ("s", (("b", 0, 1),), "east"),
            ("r", (("b", 0, 1),), "east"),
        )
        self.assert_no_routes(FACES, ("s", (("a", 1, 0),), "g"), ("t", (("b", 0, 1),), "u"))

    def test_each_next_way(self):
        self.assert_no_routes(
            TIPS,
            ("g", (("a", 0, 1), ("p", 2, 0), ("q", 0, 1), ("c", 0, 1)), "e"),
            ("g", (("a", 0, 1), ("p", 1, 0), ("c", 0, 1)), "e"),
            ("g", (("a", 0, 1), ("p", 1, 0), ("q", 0, 2), ("c", 0, 1)), "e"),
            ("h", (("b", 0, 1), ("p", 1, 0), ("q", 0, 1), ("c", 0, 1)), "e"),
        )
        self.assert_no_routes(
            CROSS,
            ("s", (("x", 2, 3), ("b", 0, 1)), "east"),
            ("s", (("x", 0, 1), ("d", 0, 1)), "south"),
            ("east", (("b", 1, 0), ("x", 1, 0), ("c", 1, 0)), "north"),
        )

    def test_steps_that_are_no_ways(self):
        self.assert_no_routes(
            LOOP,
            ("west", (("w", 0, 0),), "west"),
            ("west", (("w", 0, 2), ("p", 0, 1), ("a", 0, 1)), "sa"),
            ("west", (("w", 0, 1), ("p", 0, 3), ("a", 0, 1)), "sa"),
            ("west", (("w", 0, 1), ("p", 0, 0), ("a", 0, 1)), "sa"),
            ("west", (("z", 0, 1), ("p", 0, 1), ("a", 0, 1)), "sa"),
        )
        plan = read_plan("stretch a plain\nstretch p points\nstretch b plain\nstretch x crossing\nstretch c plain\n"
                         "join a 1 p 1\njoin p 2 b 0\njoin b 1 x 0\njoin x 2 c 0\ngate g a 0\ngate h c 1\nsignal s b 1")
        self.assertEqual([route for route in routes(plan) if route[2] != "g"], [])
        self.assert_no_routes(
            plan,
            ("g", (("a", 0, 1), ("p", 1, 2), ("b", 0, 1)), "s"),
            ("s", (("x", 0, 2), ("c", 0, 1)), "h"),
        )

    def test_signals_that_are_passed(self):
        self.assert_no_routes(
            FACES,
            ("g", (("a", 0, 1), ("b", 0, 1)), "u"),
            ("g", (("a", 0, 1), ("b", 0, 1), ("c", 0, 1)), "h"),
            ("s", (("b", 0, 1), ("c", 0, 1)), "h"),
            ("h", (("c", 1, 0), ("b", 1, 0)), "t"),
        )
        self.assert_no_routes(LOOP, ("west", (("w", 0, 1), ("p", 0, 1), ("a", 0, 1), ("q", 1, 0), ("e", 0, 1)), "east"))

    def test_gates_that_are_passed(self):
        # Nothing is joined to the end of a gate, so whatever comes behind it begins nowhere.
        steps = (("q", 1, 0), ("e", 0, 1))
        for more in ways_of_plan(LOOP):
            for end in ("east", "west", "sa", "sb"):
                self.assert_no_routes(LOOP, ("sa", steps + (more,), end))

    def test_nothing_at_the_end(self):
        for end in ("sa", "sb", "west", "east", "w", "p", "z"):
            self.assert_no_routes(LOOP, ("west", (("w", 0, 1),), end), ("west", (("w", 0, 1), ("p", 0, 1)), end))
        self.assert_no_routes(TIPS, ("g", (("a", 0, 1), ("p", 1, 0), ("q", 0, 2), ("d", 0, 1)), "s"))

    def test_other_starts_and_ends(self):
        names = ["west", "east", "sa", "sb", "w", "p", "q", "z", *WRONG_NAMES]
        for start, steps, end in TABLE:
            for name in names:
                if name != start:
                    self.assert_no_routes(LOOP, (name, steps, end))
                if name != end:
                    self.assert_no_routes(LOOP, (start, steps, name))

    def test_no_steps(self):
        for start in ("west", "sa", "z"):
            for end in ("west", "east", "sa", "sb", "z"):
                self.assert_no_routes(LOOP, (start, (), end))
        self.assert_no_routes(FACES, ("s", (), "t"), ("t", (), "s"))

    def test_a_stretch_twice_in_the_steps(self):
        over = (("a", 0, 1), ("x", 0, 1), ("b", 0, 1), ("x", 2, 3), ("c", 0, 1))
        self.assert_no_routes(read_plan(KNOT_TEXT), ("g", over, "h"))
        back = (("w", 0, 1), ("p", 0, 1), ("a", 0, 1), ("p", 2, 0), ("w", 1, 0))
        self.assert_no_routes(read_plan(TURN_TEXT), ("g", back, "g"))

    def test_a_stretch_twice_by_the_overlap(self):
        route = ("g", (("a", 0, 1), ("x", 0, 1), ("b", 0, 1)), "s")
        self.assert_is_route(read_plan(KNOT_TEXT + "\nsignal s b 1"), route, True)
        self.assert_no_routes(read_plan(KNOT_TEXT + "\nsignal s b 1 over x 2 3"), route)

    def test_the_stretch_in_front_of_the_start(self):
        plan = read_plan(TWO_TEXT + "\nsignal s a 1")
        self.assert_no_routes(plan, ("s", (("b", 0, 1), ("a", 0, 1)), "s"))
        plan = read_plan(TURN_TEXT + "\nsignal s a 1")
        self.assert_is_route(plan, ("s", (("p", 2, 0), ("w", 1, 0)), "g"), True)
        self.assert_no_routes(plan, ("s", (("p", 2, 0), ("w", 1, 0), ("w", 0, 1), ("p", 0, 1), ("a", 0, 1)), "s"))

    def test_the_stretch_in_front_of_the_start_in_the_overlap(self):
        self.assert_no_routes(RING, ("u", (("p", 2, 0), ("a", 0, 1)), "s"))
        plan = read_plan(TWO_TEXT + "\nsignal s a 1\nsignal u b 1")
        self.assertEqual(routes(plan), (("s", (("b", 0, 1),), "u"), ("u", (("a", 0, 1),), "s")))
        for text in ("\nsignal s a 1 over b 0 1\nsignal u b 1", "\nsignal u b 1\nsignal s a 1 over b 0 1"):
            plan = read_plan(TWO_TEXT + text)
            self.assert_is_route(plan, ("s", (("b", 0, 1),), "u"), True)
            self.assert_no_routes(plan, ("u", (("a", 0, 1),), "s"))

    def test_a_gate_has_no_stretch_in_front(self):
        # A route may come to a signal whose overlap is any stretch but those of its own steps.
        plan = read_plan("stretch a plain\nstretch b plain\njoin a 1 b 0\ngate g a 0\nsignal s a 1 over b 0 1")
        self.assert_is_route(plan, ("g", (("a", 0, 1),), "s"), True)


class AnyValuesTest(RouteTest):
    def test_parts_of_another_kind(self):
        for plan in (LOOP, LINE, CROSS):
            for route in routes(plan):
                for thing in wrong_kinds(route):
                    self.assert_no_routes(plan, thing)

    def test_too_short_and_too_long(self):
        for plan in (LOOP, LINE, CROSS, LADDER):
            for route in routes(plan):
                for thing in wrong_lengths(route, lambda place: False):
                    self.assert_no_routes(plan, thing)

    def test_bools_for_integers(self):
        for at, (name, start, goal) in enumerate(TABLE[0][1]):
            self.assert_no_routes(
                LOOP,
                changed(TABLE[0], (1, at), (name, bool(start), goal)),
                changed(TABLE[0], (1, at), (name, start, bool(goal))),
            )

    def test_other_values(self):
        self.assert_no_routes(LOOP, *ANY_VALUES, TABLE, TABLE[0][1], TABLE[0][1][0], LOOP, "west", ("west", "sa"))
        for place in ((0,), (1,), (2,), (1, 0), (1, 0, 0), (1, 0, 1), (1, 0, 2)):
            for value in ANY_VALUES:
                if (place, value) != ((1, 0, 2), 1) and (place, value) != ((1, 0, 1), 0):
                    self.assert_no_routes(LOOP, changed(TABLE[0], place, value))
        self.assert_no_routes(LOOP, ("west", "w01", "sa"), ("west", ("w01",), "sa"), ("west", {}, "sa"))

    def test_routes_of_other_plans(self):
        for plan in (LOOP, LINE, RING, CROSS, NO_GATES, EMPTY):
            for other in PLANS:
                for route in routes(other):
                    self.assert_is_route(plan, route, route in routes(plan))

    def test_rows_of_linked_ways(self):
        for plan in random_plans(40, 5, 5):
            table = oracle.table(plan)
            names = [item[0] for item in plan[2] + plan[3]]
            for beginning in sorted({way[:2] for way in ways_of_plan(plan)}):
                for row in oracle.rows_from(plan, beginning, 4):
                    for start in names:
                        for end in names:
                            route = (start, row, end)
                            self.assertIs(is_route(plan, route), route in table, (plan, route))

    def test_routes_with_another_step(self):
        for plan in [LOOP, CROSS, TIPS, LADDER, *random_plans(25, 6)]:
            table = oracle.table(plan)
            for start, steps, end in table:
                for at in range(len(steps)):
                    for way in ways_of_plan(plan):
                        for put in (steps[:at] + (way,) + steps[at:], steps[:at] + (way,) + steps[at + 1:]):
                            route = (start, put, end)
                            self.assertIs(is_route(plan, route), route in table, (plan, route))


class BadRouteTest(unittest.TestCase):
    def test_values_that_are_no_routes(self):
        for thing in [*ANY_VALUES, *wrong_kinds(TABLE[0]), *wrong_lengths(TABLE[0], lambda place: False), TABLE,
                      ("sa", TABLE[0][1], "sa"), ("west", (), "west"), ("west", TABLE[0][1][:1], "sa")]:
            with self.subTest(thing=thing):
                for function in (overlap_of, berth_of, needs, lies_of):
                    raises(self, function, {"plan": LOOP, "route": thing}, BadRoute, thing)
                raises(self, do_bar, {"plan": LOOP, "one": thing, "other": TABLE[1]}, BadRoute, thing)
                raises(self, do_bar, {"plan": LOOP, "one": TABLE[1], "other": thing}, BadRoute, thing)
                raises(self, do_bar, {"plan": LOOP, "one": thing, "other": ("west", None)}, BadRoute, thing)

    def test_routes_of_another_plan(self):
        for route in routes(LINE):
            for function in (overlap_of, berth_of, needs, lies_of):
                raises(self, function, {"plan": LOOP, "route": route}, BadRoute, route)


if __name__ == "__main__":
    unittest.main()
