"""[3.3] The table of routes."""

import unittest

from clearline.plans import read_plan
from clearline.routes import is_route, routes
from tests import oracle
from tests.layouts import (
    BUFFERS, CROSS, FACES, LADDER, LINE, NO_GATES, NO_SIGNALS, PLANS, RING, SHORT, TIPS, random_plans,
)
from tests.samples import EMPTY, FULL, LOOP, same_calls


class TableTest(unittest.TestCase):
    def assert_table(self, plan, expected):
        same_calls(self, routes, {"plan": plan}, expected)
        for route in expected:
            self.assertIs(is_route(plan, route), True)

    def test_a_loop(self):
        self.assert_table(LOOP, (
            ("west", (("w", 0, 1), ("p", 0, 1), ("a", 0, 1)), "sa"),
            ("west", (("w", 0, 1), ("p", 0, 2), ("b", 0, 1), ("q", 2, 0), ("e", 0, 1)), "east"),
            ("east", (("e", 1, 0), ("q", 0, 1), ("a", 1, 0), ("p", 1, 0), ("w", 1, 0)), "west"),
            ("east", (("e", 1, 0), ("q", 0, 2), ("b", 1, 0)), "sb"),
            ("sa", (("q", 1, 0), ("e", 0, 1)), "east"),
            ("sb", (("p", 2, 0), ("w", 1, 0)), "west"),
        ))

    def test_a_line_with_an_overlap(self):
        self.assert_table(LINE, (
            ("west", (("a", 0, 1),), "s"),
            ("east", (("b", 1, 0),), "r"),
            ("s", (("o", 0, 1), ("b", 0, 1)), "east"),
            ("r", (("o", 1, 0), ("a", 1, 0)), "west"),
        ))

    def test_a_ring(self):
        # From u the way leads to s, but the overlap of s is the stretch in front of u. From v it leads left to the
        # gate, and right round the ring to the stretch in front of v.
        self.assert_table(RING, (
            ("west", (("w", 0, 1), ("p", 1, 0), ("a", 0, 1)), "s"),
            ("s", (("b", 0, 1),), "u"),
            ("v", (("p", 0, 1), ("w", 1, 0)), "west"),
        ))

    def test_gates_come_before_signals(self):
        text = "stretch a plain\nstretch b plain\njoin a 1 b 0\ngate z b 1\ngate y a 0\nsignal a1 b 0\nsignal a0 a 1"
        plan = read_plan(text)
        self.assert_table(plan, (
            ("z", (("b", 1, 0),), "a1"),
            ("y", (("a", 0, 1),), "a0"),
            ("a1", (("a", 1, 0),), "y"),
            ("a0", (("b", 0, 1),), "z"),
        ))

    def test_a_crossing(self):
        self.assert_table(CROSS, (
            ("west", (("a", 0, 1),), "s"),
            ("east", (("b", 1, 0), ("x", 1, 0), ("a", 1, 0)), "west"),
            ("north", (("c", 0, 1),), "z"),
            ("south", (("d", 1, 0),), "n"),
            ("s", (("x", 0, 1), ("b", 0, 1)), "east"),
            ("n", (("x", 3, 2), ("c", 1, 0)), "north"),
            ("z", (("x", 2, 3), ("d", 0, 1)), "south"),
        ))

    def test_points_tip_to_tip(self):
        left_in, right_in = (("a", 0, 1), ("p", 1, 0)), (("b", 0, 1), ("p", 2, 0))
        out = (("q", 0, 1), ("c", 0, 1))
        self.assert_table(TIPS, (
            ("g", left_in + out, "e"),
            ("h", right_in + out, "e"),
            ("e", (("c", 1, 0), ("q", 1, 0), ("p", 0, 1), ("a", 1, 0)), "g"),
            ("e", (("c", 1, 0), ("q", 1, 0), ("p", 0, 2), ("b", 1, 0)), "h"),
            ("s", (("q", 2, 0), ("p", 0, 1), ("a", 1, 0)), "g"),
            ("s", (("q", 2, 0), ("p", 0, 2), ("b", 1, 0)), "h"),
        ))

    def test_left_before_right_from_the_first_points_on(self):
        ends = [(start, [name for name, _, _ in steps][1:], end) for start, steps, end in routes(LADDER)]
        self.assertEqual(ends, [
            ("gd", ["r", "p", "w"], "gw"),
            ("gc", ["r", "p", "w"], "gw"),
            ("gw", ["p", "q", "a"], "ga"),
            ("gw", ["p", "q", "b"], "gb"),
            ("gw", ["p", "r", "c"], "gc"),
            ("gw", ["p", "r", "d"], "gd"),
            ("gb", ["q", "p", "w"], "gw"),
            ("ga", ["q", "p", "w"], "gw"),
        ])

    def test_signals_face_to_face(self):
        self.assert_table(FACES, (
            ("g", (("a", 0, 1),), "s"),
            ("h", (("c", 1, 0),), "v"),
            ("s", (("b", 0, 1),), "u"),
            ("t", (("a", 1, 0),), "g"),
            ("u", (("c", 0, 1),), "h"),
            ("v", (("b", 1, 0),), "t"),
        ))

    def test_no_gates(self):
        # The route from z needs b and the overlap c, the third stretch being the one in front of z.
        self.assert_table(NO_GATES, (
            ("z", (("b", 0, 1),), "y"),
            ("y", (("c", 0, 1),), "x"),
            ("x", (("a", 0, 1),), "z"),
        ))

    def test_no_signals(self):
        self.assert_table(NO_SIGNALS, (
            ("one", (("b", 0, 1), ("x", 2, 3), ("a", 1, 0)), "two"),
            ("two", (("a", 0, 1), ("x", 3, 2), ("b", 1, 0)), "one"),
        ))

    def test_a_stretch_between_two_gates(self):
        self.assert_table(SHORT, (("g", (("a", 1, 0),), "h"), ("h", (("a", 0, 1),), "g")))

    def test_no_routes(self):
        self.assert_table(EMPTY, ())
        self.assert_table(BUFFERS, ())

    def test_the_full_plan(self):
        self.assert_table(FULL, (
            ("west", (("a", 0, 1),), "s"),
            ("s", (("o", 0, 1),), "u"),
        ))

    def test_a_ring_is_not_gone_round(self):
        plan = read_plan("stretch a plain\nstretch b plain\njoin a 1 b 0\njoin b 1 a 0\nsignal s a 1")
        self.assert_table(plan, ())

    def test_a_turning_loop_is_not_gone_round(self):
        # Both legs of p are joined to the ends of a, so each way into the loop comes back onto p.
        text = ("stretch w plain\nstretch p points\nstretch a plain\n"
                "join w 1 p 0\njoin p 1 a 0\njoin p 2 a 1\ngate g w 0")
        self.assert_table(read_plan(text), ())
        self.assert_table(read_plan(text + "\nsignal s a 0"), (
            ("g", (("w", 0, 1), ("p", 0, 2), ("a", 1, 0)), "s"),
            ("s", (("p", 1, 0), ("w", 1, 0)), "g"),
        ))

    def test_overlaps_that_a_route_needs_already(self):
        # The overlap of s is the crossing, which the route from g has gone over before.
        text = ("stretch a plain\nstretch x crossing\nstretch b plain\njoin a 1 x 0\njoin x 1 b 0\njoin b 1 x 2\n"
                "gate g a 0\nsignal s b 1")
        self.assert_table(read_plan(text), (("g", (("a", 0, 1), ("x", 0, 1), ("b", 0, 1)), "s"),))
        self.assert_table(read_plan(text + " over x 2 3"), ())

    def test_it_holds_all_routes_in_their_order(self):
        for plan in [*PLANS, *random_plans(300, 3), *random_plans(60, 4, 12)]:
            with self.subTest(plan=plan):
                self.assertEqual(routes(plan), oracle.table(plan))


if __name__ == "__main__":
    unittest.main()
