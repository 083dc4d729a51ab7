"""[4.1] Standings: is_standing, bare, taken, is_safe."""

import itertools
import unittest

from clearline.errors import BadLies, BadStanding
from clearline.tracks import bare, is_safe, is_standing, taken
from tests.layouts import CROSS, FACES, LADDER, LINE, PLANS, TIPS
from tests.samples import (
    ANY_VALUES, EMPTY, GOOD_NAMES, LOOP, WRONG_NAMES, changed, raises, same_calls, wrong_kinds, wrong_lengths,
)

POSITIONS = ("left", "right", "between")
LIES = (("p", "left"), ("q", "between"))
ONE = ("one", (("w", 0, 1),), False)
TWO = ("two", (("q", 2, 0), ("b", 0, 1)), False)
STANDING = ((ONE, TWO), LIES, ("east", "sa"))
SLIPPED = ("t", (("o", 0, 1), ("a", 0, 1)), True)


def lies_left(plan):
    """The lies in which all points lie left."""
    return tuple((name, "left") for name, kind in plan[0] if kind == "points")


def is_free(place):
    """Whether a standing may have another number of items at this place: trains, covers, shows."""
    return place in ((0,), (2,)) or (len(place) == 3 and place[0] == 0 and place[2] == 1)


class StandingTest(unittest.TestCase):
    def assert_is_standing(self, plan, thing, expected):
        with self.subTest(thing=thing):
            same_calls(self, is_standing, {"plan": plan, "thing": thing}, expected)
            self.assertIs(is_standing(plan, thing), expected)

    def assert_no_standings(self, plan, *things):
        for thing in things:
            self.assert_is_standing(plan, thing, False)

    def assert_train(self, plan, train, expected):
        self.assert_is_standing(plan, ((train,), lies_left(plan), ()), expected)


class FormTest(StandingTest):
    def test_standings(self):
        for plan in PLANS:
            self.assert_is_standing(plan, ((), lies_left(plan), ()), True)
            self.assert_is_standing(plan, ((), lies_left(plan), tuple(sorted(g[0] for g in plan[2] + plan[3]))), True)
        self.assert_is_standing(LOOP, STANDING, True)
        self.assert_is_standing(LOOP, ((ONE,), LIES, ()), True)

    def test_parts_of_another_kind(self):
        for standing in (STANDING, ((ONE,), LIES, ("west",))):
            self.assert_no_standings(LOOP, *wrong_kinds(standing))
        self.assert_no_standings(LINE, *wrong_kinds(((SLIPPED,), (), ("s",))))

    def test_too_short_and_too_long(self):
        self.assert_no_standings(LOOP, *wrong_lengths(STANDING, is_free))
        self.assert_no_standings(LINE, *wrong_lengths(((SLIPPED,), (), ("s",)), is_free))
        for more in ("a", 0, (), None, True, ("p", "left"), ("w", 0), ("w", 0, 1), ONE[:2], [*ONE], ONE):
            self.assert_no_standings(
                LOOP,
                changed(STANDING, (0,), STANDING[0] + (more,)),
                changed(STANDING, (0, 1, 1), TWO[1] + (more,)),
                changed(STANDING, (2,), STANDING[2] + (more,)),
            )

    def test_bools_for_integers_and_integers_for_bools(self):
        self.assert_no_standings(
            LOOP,
            changed(STANDING, (0, 0, 1, 0), ("w", False, 1)), changed(STANDING, (0, 0, 1, 0), ("w", 0, True)),
            changed(STANDING, (0, 0, 2), 0), changed(STANDING, (0, 0, 2), 1), changed(STANDING, (0, 0, 2), None),
        )
        self.assert_no_standings(LINE, changed(((SLIPPED,), (), ()), (0, 0, 2), 1))

    def test_other_values(self):
        self.assert_no_standings(LOOP, *ANY_VALUES, LOOP, ONE, LIES, ("p", "left"), STANDING[:2], STANDING + ((),))
        fitting = [((0,), tuple, ()), ((2,), tuple, ()), ((0, 0, 0), str, "a"), ((0, 0, 2), bool, False)]
        for place in ((0,), (1,), (2,), (0, 0), (0, 0, 0), (0, 0, 1), (0, 0, 1, 0), (0, 0, 2), (1, 0), (1, 0, 0),
                      (1, 0, 1), (2, 0)):
            for value in ANY_VALUES:
                if (place, type(value), value) not in fitting:
                    self.assert_no_standings(LOOP, changed(STANDING, place, value))


class TrainsTest(StandingTest):
    def test_names(self):
        for name in GOOD_NAMES:
            self.assert_train(LINE, (name, (("a", 0, 1),), False), True)
        for name in WRONG_NAMES:
            self.assert_train(LINE, (name, (("a", 0, 1),), False), False)
        # A train may be called like a stretch, a gate or a signal.
        for name in ("a", "west", "s"):
            self.assert_train(LINE, (name, (("a", 0, 1),), False), True)

    def test_ascending(self):
        covers = [(("a", 0, 1),), (("b", 0, 1),), (("o", 1, 0),)]
        for names in itertools.product(("a", "b1", "b10", "b2", "c"), repeat=3):
            trains = tuple((name, cover, False) for name, cover in zip(names, covers))
            self.assert_is_standing(LINE, (trains, (), ()), names[0] < names[1] < names[2])

    def test_a_name_twice(self):
        self.assert_no_standings(LOOP, ((ONE, ONE), LIES, ()), ((ONE, ("one",) + TWO[1:]), LIES, ()))

    def test_two_trains_on_one_stretch(self):
        for way in (("w", 0, 1), ("w", 1, 0)):
            self.assert_is_standing(LOOP, ((ONE, ("two", (way,), False)), LIES, ()), True)

    def test_covers(self):
        for cover, expected in (
            ((), False),
            ((("a", 0, 1),), True),
            ((("a", 1, 0),), True),
            ((("o", 0, 1), ("a", 0, 1)), True),
            ((("a", 1, 0), ("o", 1, 0)), True),
            ((("a", 0, 1), ("o", 0, 1)), False),
            ((("o", 1, 0), ("a", 0, 1)), False),
            ((("o", 0, 1), ("a", 1, 0)), False),
            ((("b", 0, 1), ("a", 0, 1)), False),
            ((("a", 0, 1), ("a", 0, 1)), False),
            ((("a", 1, 0), ("a", 0, 1)), False),
            ((("b", 0, 1), ("o", 0, 1), ("a", 0, 1)), False),
            ((("a", 0, 0),), False),
            ((("a", 0, 2),), False),
            ((("z", 0, 1),), False),
            ((("west", 0, 1),), False),
            (("a", 0, 1), False),
            (("a",), False),
            ("a", False),
        ):
            self.assert_train(LINE, ("t", cover, False), expected)

    def test_covers_of_points_and_crossings(self):
        for name, kind, plan in (("p", "points", TIPS), ("x", "crossing", CROSS)):
            ways = {"points": [(0, 1), (1, 0), (0, 2), (2, 0)], "crossing": [(0, 1), (1, 0), (2, 3), (3, 2)]}[kind]
            for start, goal in itertools.product(range(-1, 5), repeat=2):
                self.assert_train(plan, ("t", ((name, start, goal),), False), (start, goal) in ways)
        for cover, expected in (
            ((("p", 1, 0), ("a", 0, 1)), True),
            ((("p", 2, 0), ("a", 0, 1)), False),
            ((("p", 0, 1), ("a", 0, 1)), False),
            ((("q", 0, 2), ("p", 1, 0)), True),
            ((("q", 0, 2), ("p", 2, 0)), True),
            ((("q", 0, 2), ("p", 0, 1)), False),
            ((("q", 1, 0), ("p", 1, 0)), False),
            ((("b", 1, 0), ("p", 0, 2)), True),
            ((("b", 1, 0), ("p", 0, 1)), False),
        ):
            self.assert_train(TIPS, ("t", cover, False), expected)

    def test_slipped(self):
        over, back = (("o", 0, 1), ("a", 0, 1)), (("o", 1, 0), ("b", 1, 0))
        self.assert_train(LINE, ("t", over, True), True)
        self.assert_train(LINE, ("t", over, False), True)
        # With one way; behind a signal without an overlap; behind no signal; at a gate; not linked.
        self.assert_train(LINE, ("t", over[1:], True), False)
        self.assert_train(LINE, ("t", over[:1], True), False)
        self.assert_train(LINE, ("t", back, False), True)
        self.assert_train(LINE, ("t", back, True), False)
        self.assert_train(LINE, ("t", (("b", 0, 1), ("o", 0, 1)), True), False)
        self.assert_train(LINE, ("t", (("a", 1, 0), ("o", 1, 0)), True), False)
        self.assert_train(LINE, ("t", (("b", 0, 1), ("a", 0, 1)), True), False)
        self.assert_train(LINE, ("t", (), True), False)
        self.assert_train(LINE, ("t", (("b", 0, 1), ("o", 0, 1), ("a", 0, 1)), True), False)

    def test_slipped_where_the_first_way_ends_at_a_signal_with_an_overlap(self):
        # u has an overlap and stands at the end of b; the train has its head on b, and comes from s, which has none.
        cover = (("b", 0, 1), ("a", 0, 1))
        self.assert_train(FACES, ("t", cover, False), True)
        self.assert_train(FACES, ("t", cover, True), False)
        self.assert_train(FACES, ("t", (("c", 0, 1), ("b", 0, 1)), True), True)
        self.assert_train(FACES, ("t", (("b", 1, 0), ("c", 1, 0)), True), False)

    def test_slipped_onto_a_crossing(self):
        self.assert_train(CROSS, ("t", (("x", 0, 1), ("a", 0, 1)), True), True)
        self.assert_train(CROSS, ("t", (("x", 3, 2), ("d", 1, 0)), True), True)
        self.assert_train(CROSS, ("t", (("x", 2, 3), ("c", 0, 1)), True), False)


class LiesAndShowsTest(StandingTest):
    def test_positions(self):
        for one, other in itertools.product(POSITIONS, repeat=2):
            self.assert_is_standing(LOOP, ((), (("p", one), ("q", other)), ()), True)
        for position in ("", "Left", "left ", "middle", "p", None, 0, 1, True, False, (), ("left",), ["left"]):
            self.assert_no_standings(LOOP, ((), (("p", position), ("q", "left")), ()))
            self.assert_no_standings(LOOP, ((), (("p", "left"), ("q", position)), ()))

    def test_the_points_in_their_order(self):
        left = {name: (name, "left") for name in ("p", "q", "r", "a", "x")}
        for names in itertools.product(left, repeat=3):
            lies = tuple(left[name] for name in names)
            self.assert_is_standing(LADDER, ((), lies, ()), names == ("p", "q", "r"))
        for many in (0, 1, 2):
            self.assert_no_standings(LADDER, ((), tuple(left.values())[:many], ()))
        self.assert_no_standings(LADDER, ((), tuple(left.values())[:3] + (left["a"],), ()))
        self.assert_no_standings(LADDER, ((), tuple(left.values())[:3] + (left["r"],), ()))
        self.assert_no_standings(CROSS, ((), (("x", "left"),), ()))

    def test_the_order_is_that_of_the_plan(self):
        plan = ((("z", "points"), ("y", "points")), (), (), ())
        self.assert_is_standing(plan, ((), (("z", "left"), ("y", "right")), ()), True)
        self.assert_no_standings(plan, ((), (("y", "right"), ("z", "left")), ()))

    def test_shows(self):
        known = ("east", "sa", "sb", "west")
        lies = lies_left(LOOP)
        for many in range(5):
            for shows in itertools.permutations(known, many):
                self.assert_is_standing(LOOP, ((), lies, shows), list(shows) == sorted(shows))
        for shows in (("east", "east"), ("east", "sa", "sa"), ("p",), ("a",), ("z",), ("east", "z"), ("",), (None,),
                      (0,), (("east",),), (["east"],), ["east"], "east", ("Sa",), ("sa", "west", "west")):
            self.assert_no_standings(LOOP, ((), lies, shows))


class BareTest(unittest.TestCase):
    def test_bare(self):
        for plan in PLANS:
            points = [name for name, kind in plan[0] if kind == "points"]
            for positions in itertools.product(POSITIONS, repeat=len(points)):
                lies = tuple(zip(points, positions))
                same_calls(self, bare, {"plan": plan, "lies": lies}, ((), lies, ()))

    def test_values_that_are_no_lies(self):
        wrong = [(), LIES[:1], LIES[1:], LIES[::-1], LIES + LIES[1:], (("p", "left"), ("p", "left")),
                 (("p", "left"), ("a", "left")), (("p", "left"), ("q", "middle")), (("p", "left"), ("q",)),
                 (("p", "left"), ("q", "left", 0)), ("p", "q"), ("left", "left"), "pq", {"p": "left", "q": "left"},
                 (("left", "p"), ("left", "q")), (("p", "left"), "ql"), ((), LIES, ())]
        for thing in [*wrong, *ANY_VALUES, *wrong_kinds(LIES), *wrong_lengths(LIES, lambda place: False)]:
            with self.subTest(thing=thing):
                raises(self, bare, {"plan": LOOP, "lies": thing}, BadLies, thing)
        for thing in (LIES, (("x", "left"),), [], None, ((),)):
            raises(self, bare, {"plan": CROSS, "lies": thing}, BadLies, thing)


class TakenTest(unittest.TestCase):
    def assert_taken(self, plan, trains, stretches, safe):
        for shows in ((), tuple(sorted(item[0] for item in plan[2]))):
            standing = (trains, lies_left(plan), shows)
            with self.subTest(standing=standing):
                same_calls(self, taken, {"plan": plan, "standing": standing}, stretches)
                same_calls(self, is_safe, {"plan": plan, "standing": standing}, safe)
                self.assertIs(is_safe(plan, standing), safe)

    def test_taken_and_safe(self):
        self.assert_taken(LOOP, (), (), True)
        self.assert_taken(LOOP, (ONE,), ("w",), True)
        self.assert_taken(LOOP, (ONE, TWO), ("b", "q", "w"), True)
        self.assert_taken(LOOP, (ONE, ("two", (("p", 0, 1), ("w", 0, 1)), False)), ("p", "w"), False)
        self.assert_taken(LOOP, (ONE, ("two", (("w", 1, 0),), False)), ("w",), False)
        back = ("one", (("w", 1, 0), ("p", 1, 0)), False)
        self.assert_taken(LOOP, (back, ("two", (("w", 0, 1),), False)), ("p", "w"), False)
        self.assert_taken(LINE, (SLIPPED,), ("a", "o"), True)
        self.assert_taken(LINE, (SLIPPED, ("u", (("b", 1, 0),), False)), ("a", "b", "o"), True)
        self.assert_taken(LINE, (SLIPPED, ("u", (("o", 1, 0), ("b", 1, 0)), False)), ("a", "b", "o"), False)

    def test_both_ways_over_a_crossing_are_one_stretch(self):
        trains = (("t", (("x", 0, 1),), False), ("u", (("x", 3, 2),), False))
        self.assert_taken(CROSS, trains, ("x",), False)

    def test_three_trains_on_one_stretch(self):
        trains = tuple((name, (("e", 0, 1),), False) for name in ("a", "b", "c"))
        self.assert_taken(LOOP, trains, ("e",), False)

    def test_values_that_are_no_standings(self):
        for thing in [*ANY_VALUES, *wrong_kinds(STANDING), *wrong_lengths(STANDING, is_free),
                      changed(STANDING, (0,), (TWO, ONE)), changed(STANDING, (1,), LIES[::-1]),
                      changed(STANDING, (2,), ("sa", "east"))]:
            with self.subTest(thing=thing):
                for function in (taken, is_safe):
                    raises(self, function, {"plan": LOOP, "standing": thing}, BadStanding, thing)
        raises(self, taken, {"plan": EMPTY, "standing": STANDING}, BadStanding, STANDING)
        raises(self, is_safe, {"plan": LINE, "standing": STANDING}, BadStanding, STANDING)


if __name__ == "__main__":
    unittest.main()
