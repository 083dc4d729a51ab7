"""[3.2] What routes need: overlap_of, berth_of, needs, lies_of, do_bar."""

import unittest

from clearline.plans import read_plan
from clearline.routes import berth_of, do_bar, lies_of, needs, overlap_of, routes
from tests import oracle
from tests.layouts import CROSS, FACES, LADDER, LINE, PLANS, RING, TIPS, random_plans
from tests.samples import LOOP, same_calls

# From g, p is met from the tip, q from the left and r from the right; from h and k it is the other way round.
POINTS = read_plan(
    "stretch a plain\nstretch r points\nstretch p points\nstretch q points\nstretch b plain\nstretch c plain\n"
    "stretch d plain\nstretch e plain\njoin a 1 p 0\njoin p 1 q 1\njoin p 2 r 2\njoin q 0 b 0\njoin r 0 c 0\n"
    "join b 1 d 0\njoin c 1 e 0\ngate g a 0\ngate h d 1\ngate k e 1\nsignal s b 1 over d 0 1\nsignal t c 1"
)


class NeedsTest(unittest.TestCase):
    def assert_needs(self, plan, route, overlap, berth, stretches, lies):
        with self.subTest(route=route):
            arguments = {"plan": plan, "route": route}
            same_calls(self, overlap_of, arguments, overlap)
            same_calls(self, berth_of, arguments, berth)
            same_calls(self, needs, arguments, stretches)
            same_calls(self, lies_of, arguments, lies)

    def test_a_route_that_ends_at_a_gate(self):
        self.assert_needs(
            LOOP, routes(LOOP)[1], (), None, ("b", "e", "p", "q", "w"), (("p", "right"), ("q", "right")))
        self.assert_needs(LOOP, routes(LOOP)[2], (), None, ("a", "e", "p", "q", "w"), (("p", "left"), ("q", "left")))
        self.assert_needs(LINE, routes(LINE)[2], (), None, ("b", "o"), ())

    def test_a_route_that_ends_at_a_signal_with_an_overlap(self):
        self.assert_needs(LINE, routes(LINE)[0], (("o", 0, 1),), "a", ("a", "o"), ())
        self.assert_needs(RING, routes(RING)[0], (("b", 0, 1),), "a", ("a", "b", "p", "w"), (("p", "left"),))
        self.assert_needs(FACES, routes(FACES)[2], (("c", 0, 1),), "b", ("b", "c"), ())

    def test_a_route_that_ends_at_a_signal_without_an_overlap(self):
        self.assert_needs(LOOP, routes(LOOP)[0], (), "a", ("a", "p", "w"), (("p", "left"),))
        self.assert_needs(LINE, routes(LINE)[1], (), "b", ("b",), ())

    def test_overlaps_over_a_crossing(self):
        table = routes(CROSS)
        self.assert_needs(CROSS, table[0], (("x", 0, 1),), "a", ("a", "x"), ())
        self.assert_needs(CROSS, table[3], (("x", 3, 2),), "d", ("d", "x"), ())
        self.assert_needs(CROSS, table[6], (), None, ("d", "x"), ())

    def test_points_from_each_end(self):
        by_start_and_end = {(route[0], route[2]): route for route in routes(POINTS)}
        for ends, overlap, berth, stretches, lies in (
            (("g", "s"), (("d", 0, 1),), "b", ("a", "b", "d", "p", "q"), (("p", "left"), ("q", "left"))),
            (("g", "t"), (), "c", ("a", "c", "p", "r"), (("p", "right"), ("r", "right"))),
            (("h", "g"), (), None, ("a", "b", "d", "p", "q"), (("p", "left"), ("q", "left"))),
            (("k", "g"), (), None, ("a", "c", "e", "p", "r"), (("p", "right"), ("r", "right"))),
            (("s", "h"), (), None, ("d",), ()),
        ):
            self.assert_needs(POINTS, by_start_and_end[ends], overlap, berth, stretches, lies)

    def test_points_that_are_left_at_the_tip(self):
        for at, lies in (
            (2, (("p", "left"), ("q", "left"))), (3, (("p", "right"), ("q", "left"))),
            (4, (("p", "left"), ("q", "right"))), (5, (("p", "right"), ("q", "right"))),
        ):
            self.assertEqual(lies_of(TIPS, routes(TIPS)[at]), lies)

    def test_lies_are_sorted_by_the_points(self):
        for at, lies in (
            (0, (("p", "right"), ("r", "right"))), (1, (("p", "right"), ("r", "left"))),
            (2, (("p", "left"), ("q", "left"))), (3, (("p", "left"), ("q", "right"))),
            (6, (("p", "left"), ("q", "right"))), (7, (("p", "left"), ("q", "left"))),
        ):
            self.assertEqual(lies_of(LADDER, routes(LADDER)[at]), lies)

    def test_all_routes(self):
        sides = {1: "left", 2: "right"}
        for plan in [*PLANS, *random_plans(100, 7)]:
            kinds = dict(plan[0])
            for route in oracle.table(plan):
                _, steps, end = route
                overlap = oracle.overlap(plan, end)
                berth = None if end in dict(plan[2]) else steps[-1][0]
                stretches = tuple(sorted({step[0] for step in steps + overlap}))
                points = {name: sides[max(start, goal)] for name, start, goal in steps if kinds[name] == "points"}
                self.assert_needs(plan, route, overlap, berth, stretches, tuple(sorted(points.items())))


class BarTest(unittest.TestCase):
    def assert_bar(self, plan, one, other, expected):
        with self.subTest(one=one, other=other):
            for first, second in ((one, other), (other, one)):
                same_calls(self, do_bar, {"plan": plan, "one": first, "other": second}, expected)
                self.assertIs(do_bar(plan, first, second), expected)

    def test_a_common_step(self):
        table = routes(LOOP)
        self.assert_bar(LOOP, table[0], table[1], True)
        self.assert_bar(LOOP, table[0], table[2], True)
        self.assert_bar(LOOP, table[0], table[0], True)

    def test_nothing_in_common(self):
        table = routes(LOOP)
        self.assert_bar(LOOP, table[0], table[3], False)
        self.assert_bar(LOOP, table[4], table[5], False)
        self.assert_bar(FACES, routes(FACES)[0], routes(FACES)[1], False)

    def test_the_stretch_in_front_of_a_start_is_not_needed(self):
        # The route from sa starts in front of the stretch on which the one from west ends.
        self.assert_bar(LOOP, routes(LOOP)[0], routes(LOOP)[4], False)

    def test_a_common_overlap(self):
        table = routes(CROSS)
        self.assert_bar(CROSS, table[0], table[3], True)
        plan = read_plan(
            "stretch a plain\nstretch b plain\nstretch x crossing\njoin a 1 x 0\njoin b 1 x 2\n"
            "gate g a 0\ngate h b 0\nsignal s a 1 over x 0 1\nsignal t b 1 over x 2 3")
        self.assert_bar(plan, *routes(plan), True)
        plan = read_plan(
            "stretch a plain\nstretch b plain\nstretch x crossing\njoin a 1 x 0\njoin b 1 x 2\n"
            "gate g a 0\ngate h b 0\nsignal s a 1 over x 0 1\nsignal t b 1")
        self.assert_bar(plan, *routes(plan), False)

    def test_a_step_and_an_overlap(self):
        table = routes(CROSS)
        self.assert_bar(CROSS, table[0], table[5], True)
        self.assert_bar(CROSS, table[0], table[6], True)
        self.assert_bar(LINE, routes(LINE)[0], routes(LINE)[2], True)
        # Without the overlap of s, nothing that both need would be left.
        self.assert_bar(LINE, routes(LINE)[1], routes(LINE)[0], False)

    def test_all_pairs(self):
        for plan in [*PLANS, *random_plans(60, 8)]:
            table = oracle.table(plan)
            needed = [{step[0] for step in steps + oracle.overlap(plan, end)} for _, steps, end in table]
            for at, one in enumerate(table):
                for to, other in enumerate(table):
                    self.assertIs(do_bar(plan, one, other), bool(needed[at] & needed[to]))


if __name__ == "__main__":
    unittest.main()
