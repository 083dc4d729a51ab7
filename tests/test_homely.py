"""[8.2], [8.3], [8.4] Orders and knots, who may go, and why not."""

import itertools
import random
import unittest

from clearline.errors import BadTrain
from clearline.journeys import count_holds, going_holds, going_trains, is_homely, judge_count, judge_going
from clearline.plans import read_plan
from tests import box_oracle
from tests.layouts import LINE
from tests.samples import ANY_VALUES, LOOP, changed, raises, same_calls, wrong_kinds, wrong_lengths
from tests.trains import (
    BOTH, FACING, FOUR, LEFT, LOOP_TABLE, SAMPLES, STATION, YARD, YARDERS, all_counts, path, random_count,
    random_samples,
)

# Three trains on the line: two face each other, one is outside.
THREE = FACING + (("v", path(LINE, "west", "s", "east")),)
# Trains on the overlap of another one's signal: t holds o, over which u goes, and wants k, which nobody holds.
ALONE = read_plan(
    "stretch a plain\nstretch x crossing\nstretch k plain\nstretch c plain\nstretch d plain\n"
    "join a 1 x 0\njoin x 1 k 0\njoin c 1 x 2\njoin x 3 d 0\ngate west a 0\ngate east k 1\n"
    "gate north c 0\ngate south d 1\nsignal s a 1 over x 0 1\nsignal n c 1 over x 2 3"
)
PAIR = (("t", path(ALONE, "west", "s", "east")), ("u", path(ALONE, "north", "n", "south")))


class CertificatesTest(unittest.TestCase):
    def assert_holds(self, plan, journeys, count, thing, expected):
        with self.subTest(count=count, thing=thing):
            arguments = {"plan": plan, "journeys": journeys, "count": count, "thing": thing}
            same_calls(self, count_holds, arguments, expected)
            self.assertIs(count_holds(**arguments), expected)

    def assert_certificates(self, plan, journeys, count, word, rows):
        """That all these rows are certificates, and no other row of some trains is one."""
        names = [name for name, _ in journeys]
        for many in range(len(names) + 1):
            for row in itertools.permutations(names, many):
                self.assert_holds(plan, journeys, count, (word, row), row in rows)
                self.assert_holds(plan, journeys, count, ("knot" if word == "order" else "order", row), False)
        found = judge_count(plan, journeys, count)
        self.assertEqual(found[0], word)
        self.assertIn(found[1], rows)
        self.assertIs(is_homely(plan, journeys, count), word == "order")

    def test_orders(self):
        both = [("one", "two"), ("two", "one")]
        self.assert_certificates(LOOP, BOTH, (0, 0), "order", both)
        self.assert_certificates(LOOP, BOTH, (1, 1), "order", both)
        self.assert_certificates(LOOP, BOTH, (2, 1), "order", [("two",)])
        self.assert_certificates(LOOP, BOTH, (2, 2), "order", [()])
        self.assert_certificates(LOOP, (), (), "order", [()])
        # Two wants what one holds, and is outside.
        self.assert_certificates(LOOP, LEFT, (1, 0), "order", [("one", "two")])

    def test_knots(self):
        self.assert_certificates(LINE, FACING, (1, 1), "knot", [("t", "u")])
        self.assert_certificates(LINE, THREE, (1, 1, 0), "knot", [("t", "u")])
        # t and v both hold a and the overlap o, which both want.
        self.assert_certificates(LINE, THREE, (1, 1, 1), "knot", [("t", "u"), ("t", "u", "v"), ("t", "v"), ("u", "v")])

    def test_a_knot_of_four(self):
        everyone = tuple(sorted(name for name, _ in FOUR))
        self.assert_certificates(STATION, FOUR, (1, 1, 1, 1), "knot", [everyone])
        # Without west2, d is free: each of the others can go when the one before has left its track.
        self.assert_certificates(STATION, FOUR, (1, 1, 1, 3), "order", [("east2", "west1", "east1")])

    def test_overlaps_are_held(self):
        # Both hold the crossing, and both want it.
        self.assert_certificates(ALONE, PAIR, (1, 1), "knot", [("t", "u")])
        self.assert_certificates(ALONE, PAIR, (1, 2), "order", [("t",)])
        self.assert_certificates(ALONE, PAIR, (1, 0), "order", [("t", "u")])

    def test_what_it_holds_itself_keeps_no_train(self):
        self.assert_certificates(ALONE, PAIR[:1], (1,), "order", [("t",)])
        self.assert_holds(ALONE, PAIR[:1], (1,), ("knot", ("t",)), False)

    def test_near_misses_of_orders(self):
        for trains in (
            ("one",), ("two",), (), ("one", "one"), ("one", "two", "two"), ("one", "two", "one"), ("one", "three"),
            ("one", "two", "three"), ["one", "two"], "one", ("one", None), ("one", ["two"]), (("one", "two"),),
        ):
            self.assert_holds(LOOP, BOTH, (0, 1), ("order", trains), False)
        # A train that is home, and a later train that holds what an earlier one wants.
        self.assert_holds(LOOP, BOTH, (2, 1), ("order", ("one", "two")), False)
        self.assert_holds(LOOP, BOTH, (2, 1), ("order", ("two", "one")), False)
        self.assert_holds(LOOP, LEFT, (1, 0), ("order", ("two", "one")), False)
        self.assert_holds(STATION, FOUR, (1, 0, 0, 0), ("order", ("west1", "east1", "east2", "west2")), True)
        self.assert_holds(STATION, FOUR, (1, 0, 0, 0), ("order", ("west2", "east1", "east2", "west1")), False)

    def test_near_misses_of_knots(self):
        for trains in (
            ("t",), ("u",), (), ("u", "t"), ("t", "t"), ("t", "t", "u"), ("t", "u", "v"), ("t", "v"), ["t", "u"],
            "tu", ("t", None), ("t", "w"), ("t", ["u"]), (("t", "u"),), ("t", "u", "u"),
        ):
            self.assert_holds(LINE, THREE, (1, 1, 0), ("knot", trains), False)
        # Home, outside, and one that wants nothing that the other one holds.
        self.assert_holds(LINE, FACING, (2, 1), ("knot", ("t", "u")), False)
        self.assert_holds(LINE, FACING, (1, 0), ("knot", ("t", "u")), False)
        self.assert_holds(LOOP, BOTH, (1, 1), ("knot", ("one", "two")), False)
        self.assert_holds(STATION, FOUR, (1, 1, 1, 1), ("knot", ("east1", "east2", "west1")), False)

    def test_other_values(self):
        for count, thing in (((1, 1), ("knot", ("t", "u"))), ((0, 1), ("order", ("u", "t")))):
            self.assert_holds(LINE, FACING, count, thing, True)
            for other in [*wrong_kinds(thing), *wrong_lengths(thing, lambda place: False)]:
                self.assert_holds(LINE, FACING, count, other, False)
            for word in ("", "Order", "orders", "go", "home", "held", None, 0, ("order",)):
                self.assert_holds(LINE, FACING, count, (word, thing[1]), False)
            for value in ANY_VALUES:
                self.assert_holds(LINE, FACING, count, value, False)
                for place in ((0,), (1,), (1, 0)):
                    self.assert_holds(LINE, FACING, count, changed(thing, place, value), False)

    def test_all_counts(self):
        chance = random.Random(41)
        words = []
        for plan, journeys in [*SAMPLES, *random_samples(40, 42, 4)]:
            for count in {random_count(chance, journeys) for _ in range(6)}:
                orders = box_oracle.orders(plan, journeys, count)
                knots = box_oracle.knots(plan, journeys, count)
                self.assertNotEqual(orders == [], knots == [])
                found = judge_count(plan, journeys, count)
                self.assertIn(found, [("order", row) for row in orders] + [("knot", row) for row in knots])
                self.assertIs(is_homely(plan, journeys, count), orders != [])
                words.append((found[0], len(found[1])))
                names = sorted(name for name, _ in journeys)
                for many in range(len(names) + 1):
                    for row in itertools.permutations(names, many):
                        thing = ("order", row)
                        self.assertIs(count_holds(plan, journeys, count, thing), row in orders)
                        self.assertIs(count_holds(plan, journeys, count, ("knot", row)), row in knots)
        for kind in (("order", 2), ("order", 4), ("knot", 2), ("knot", 3)):
            self.assertIn(kind, words)


class GoingTest(unittest.TestCase):
    def assert_holds(self, plan, journeys, count, train, thing, expected):
        with self.subTest(count=count, train=train, thing=thing):
            arguments = {"plan": plan, "journeys": journeys, "count": count, "train": train, "thing": thing}
            same_calls(self, going_holds, arguments, expected)
            self.assertIs(going_holds(**arguments), expected)

    def assert_reasons(self, plan, journeys, count, train, reasons):
        """That these are all reasons that there are for a train."""
        names = [name for name, _ in journeys]
        rows = [row for many in range(len(names) + 1) for row in itertools.permutations(names, many)]
        things = [("home",)] + [(word, row) for word in ("go", "knot", "order") for row in rows]
        things += [("held", stretch, name) for stretch, _ in plan[0] for name in names]
        for thing in things:
            self.assert_holds(plan, journeys, count, train, thing, thing in reasons)
        self.assertIn(judge_going(plan, journeys, count, train), reasons)
        self.assertEqual(train in going_trains(plan, journeys, count), reasons[0][0] == "go")

    def test_home(self):
        self.assert_reasons(LOOP, LEFT, (2, 0), "one", [("home",)])
        self.assert_reasons(LINE, FACING, (2, 1), "t", [("home",)])

    def test_go(self):
        self.assert_reasons(LOOP, BOTH, (0, 0), "one", [("go", ("one", "two")), ("go", ("two", "one"))])
        self.assert_reasons(LOOP, LEFT, (1, 0), "one", [("go", ("two",))])
        self.assert_reasons(LOOP, LEFT, (2, 0), "two", [("go", ())])
        # The order is one of the count after it.
        self.assert_reasons(LOOP, LEFT, (0, 0), "one", [("go", ("one", "two"))])

    def test_held(self):
        self.assert_reasons(LOOP, LEFT, (1, 0), "two", [("held", "a", "one")])
        # t holds a and o, u holds b.
        self.assert_reasons(LINE, THREE, (1, 1, 0), "v", [("held", "a", "t"), ("held", "o", "t")])
        self.assert_reasons(LINE, THREE, (1, 1, 0), "t", [("held", "b", "u")])
        # What it holds itself is in no train's way.
        self.assert_reasons(LINE, THREE, (1, 0, 0), "t", [
            ("go", row) for row in (("u", "v"), ("v", "u"))])
        # One stretch that two trains hold.
        self.assert_reasons(
            ALONE, (*PAIR, ("v", PAIR[0][1])), (1, 1, 0), "v",
            [("held", "a", "t"), ("held", "x", "t"), ("held", "x", "u")])

    def test_knot(self):
        self.assert_reasons(LINE, FACING, (1, 0), "u", [("knot", ("t", "u"))])
        everyone = tuple(sorted(name for name, _ in FOUR))
        self.assert_reasons(STATION, FOUR, (1, 0, 1, 1), "west1", [("knot", everyone)])

    def test_held_comes_ahead_of_knot(self):
        # Without what t holds in its way, v would be told of the knot of the count after it.
        self.assert_reasons(LINE, THREE, (0, 1, 1), "t", [("held", "a", "v"), ("held", "o", "v")])
        self.assertFalse(is_homely(LINE, THREE, (1, 1, 1)))

    def test_near_misses(self):
        for thing in (
            ("held", "a"), ("held", "o"), ("held", "o", "u"), ("held", "a", "u"), ("held", "b", "u"), ("held", "a", "v"),
            ("held", "a", "t", ()), ("held", ("a", "t")), ["held", "a", "t"], ("held", ["a"], "t"), ("held", "a", ["t"]),
            ("held", "o", None), ("locked", "a", "t"), ("knot", ("t", "u")), ("held",), "held",
        ):
            self.assert_holds(LINE, THREE, (1, 1, 0), "v", thing, False)
        for thing in (("home", ()), ("home", "t"), ["home"], "home", ("Home",), (), ("go", ())):
            self.assert_holds(LINE, FACING, (2, 1), "t", thing, False)
        # The order of the count before, or one with a train that is home then.
        for trains in (("one",), ("one", "two"), ("two", "one"), (), ("two", "two"), ["two"], "two", None):
            self.assert_holds(LOOP, BOTH, (1, 0), "one", ("go", trains), False)
        for trains in (("u", "t"), ("t",), ("u",), (), ["t", "u"], ("t", "u", "v"), None):
            self.assert_holds(LINE, FACING, (1, 0), "u", ("knot", trains), False)

    def test_other_values(self):
        for plan, journeys, count, train in (
            (LOOP, LEFT, (2, 0), "one"), (LOOP, LEFT, (1, 0), "one"), (LOOP, LEFT, (1, 0), "two"),
            (LINE, FACING, (1, 0), "u"),
        ):
            thing = judge_going(plan, journeys, count, train)
            self.assert_holds(plan, journeys, count, train, thing, True)
            for other in [*wrong_kinds(thing), *wrong_lengths(thing, lambda place: False), *ANY_VALUES]:
                self.assert_holds(plan, journeys, count, train, other, False)

    def test_bad_trains(self):
        for train in ("three", "", "One", "one ", "west", "a", *[value for value in ANY_VALUES]):
            arguments = {"plan": LOOP, "journeys": BOTH, "count": (1, 1), "train": train}
            raises(self, judge_going, arguments, BadTrain, train)
            raises(self, going_holds, {**arguments, "thing": ("home",)}, BadTrain, train)
        raises(self, judge_going, {"plan": LOOP, "journeys": (), "count": (), "train": "one"}, BadTrain, "one")

    def test_going_trains_in_the_order_of_the_journeys(self):
        for journeys, count, trains in (
            (BOTH, (0, 0), ("one", "two")), (BOTH, (2, 0), ("two",)), (BOTH, (2, 2), ()), (LEFT, (1, 0), ("one",)),
            (BOTH[::-1], (0, 0), ("two", "one")), ((), (), ()),
        ):
            same_calls(self, going_trains, {"plan": LOOP, "journeys": journeys, "count": count}, trains)
        same_calls(self, going_trains, {"plan": LINE, "journeys": FACING, "count": (1, 1)}, ())

    def test_all_reasons(self):
        chance = random.Random(43)
        words = []
        for plan, journeys in [*SAMPLES, *random_samples(40, 44, 4)]:
            for count in {random_count(chance, journeys) for _ in range(6)}:
                may = []
                for at, (train, _) in enumerate(journeys):
                    reasons = box_oracle.going(plan, journeys, count, at)
                    words.append(reasons[0][0])
                    may += [train] * (words[-1] == "go")
                    self.assertIn(judge_going(plan, journeys, count, train), reasons)
                    for thing in reasons:
                        self.assertIs(going_holds(plan, journeys, count, train, thing), True)
                        for other in (thing[:-1], thing + thing[-1:], ("go",) + thing[1:], ("knot",) + thing[1:]):
                            self.assertIs(going_holds(plan, journeys, count, train, other), other in reasons)
                self.assertEqual(going_trains(plan, journeys, count), tuple(may))
        for word in ("go", "held", "knot", "home"):
            self.assertGreater(words.count(word), 10, word)

    def test_whoever_may_go_goes_until_all_are_home(self):
        chance = random.Random(45)
        begun = 0
        for plan, journeys in [*SAMPLES, *random_samples(60, 46)]:
            for count in [(0,) * len(journeys)] + [random_count(chance, journeys) for _ in range(4)]:
                if not is_homely(plan, journeys, count):
                    continue
                begun += 1
                while count != tuple(len(row) for _, row in journeys):
                    first = judge_count(plan, journeys, count)[1][0]
                    going = going_trains(plan, journeys, count)
                    self.assertIn(first, going)
                    at = [name for name, _ in journeys].index(chance.choice(going))
                    count = box_oracle.gone(count, at)
                    self.assertIs(is_homely(plan, journeys, count), True)
        self.assertGreater(begun, 200)

    def test_the_first_train_of_any_order_may_go(self):
        for plan, journeys, counts in ((YARD, YARDERS, all_counts(YARDERS)), (LINE, THREE, all_counts(THREE))):
            for count in counts:
                for row in box_oracle.orders(plan, journeys, count):
                    if row:
                        self.assertEqual(judge_going(plan, journeys, count, row[0])[0], "go")

    def test_through_routes(self):
        # Over the whole loop in one route; what stands there is in the way.
        journeys = BOTH + (("x", (LOOP_TABLE[1],)),)
        self.assert_reasons(LOOP, journeys, (1, 1, 0), "x", [("held", "b", "two")])
        self.assertEqual(judge_going(LOOP, journeys, (1, 2, 0), "x")[0], "go")


if __name__ == "__main__":
    unittest.main()
