"""[1.1] Plans: is_plan and the errors of plan_text."""

import copy
import unittest

from clearline.errors import BadPlan
from clearline.plans import is_plan, plan_text
from tests.samples import (
    ANY_VALUES, EMPTY, FAULTY, FULL, GOOD_NAMES, LOOP, WORDS, WRONG_NAMES, WRONG_NUMBERS, changed, part, places,
    spoiled,
)

PLANS = (EMPTY, LOOP, FULL, WORDS, FAULTY)


class IsPlanTest(unittest.TestCase):
    def assert_is_plan(self, thing, expected):
        with self.subTest(thing=thing):
            before = copy.deepcopy(thing)
            self.assertIs(is_plan(thing), expected)
            self.assertIs(is_plan(thing=thing), expected)
            self.assertEqual(thing, before)

    def test_plans(self):
        for plan in PLANS:
            self.assert_is_plan(plan, True)

    def test_each_part_may_be_empty(self):
        for at in range(4):
            self.assert_is_plan(changed(FULL, (at,), ()), True)
            self.assert_is_plan(changed(EMPTY, (at,), FULL[at]), True)

    def test_parts_do_not_change_their_places(self):
        for one in range(4):
            for other in range(4):
                exchanged = changed(changed(FULL, (one,), FULL[other]), (other,), FULL[one])
                self.assert_is_plan(exchanged, one == other)

    def test_any_values(self):
        for thing in ANY_VALUES:
            self.assert_is_plan(thing, False)

    def test_parts_of_plans(self):
        for plan in (LOOP, FULL, WORDS):
            for place in places(plan):
                if place:
                    self.assert_is_plan(part(plan, place), False)

    def test_spoiled_plans(self):
        for plan in (LOOP, FULL, WORDS, FAULTY):
            for thing in spoiled(plan):
                self.assert_is_plan(thing, False)

    def test_an_object_of_another_class(self):
        self.assert_is_plan(object, False)
        for place in places(FULL):
            self.assert_is_plan(changed(FULL, place, object), False)

    def test_an_empty_tuple_is_no_item(self):
        for at in range(4):
            self.assert_is_plan(changed(FULL, (at,), FULL[at] + ((),)), False)

    def test_names(self):
        for make in (
            lambda name: (((name, "plain"),), (), (), ()),
            lambda name: ((), (((name, 0), ("a", 0)),), (), ()),
            lambda name: ((), ((("a", 0), (name, 0)),), (), ()),
            lambda name: ((), (), ((name, ("a", 0)),), ()),
            lambda name: ((), (), (("a", (name, 0)),), ()),
            lambda name: ((), (), (), ((name, ("a", 0), ()),)),
            lambda name: ((), (), (), (("a", (name, 0), ()),)),
            lambda name: ((), (), (), (("a", ("a", 0), ((name, 0, 0),)),)),
        ):
            for name in GOOD_NAMES:
                self.assert_is_plan(make(name), True)
            for name in WRONG_NAMES:
                self.assert_is_plan(make(name), False)

    def test_numbers_of_ends(self):
        for make in (
            lambda number: ((), ((("b", number), ("a", 0)),), (), ()),
            lambda number: ((), ((("b", 0), ("a", number)),), (), ()),
            lambda number: ((), (), (("b", ("a", number)),), ()),
            lambda number: ((), (), (), (("b", ("a", number), ()),)),
            lambda number: ((), (), (), (("b", ("a", 0), (("a", number, 0),)),)),
            lambda number: ((), (), (), (("b", ("a", 0), (("a", 0, number),)),)),
        ):
            for number in range(4):
                self.assert_is_plan(make(number), True)
            for number in WRONG_NUMBERS:
                self.assert_is_plan(make(number), False)

    def test_kinds(self):
        for kind in ("plain", "points", "crossing"):
            self.assert_is_plan(((("a", kind),), (), (), ()), True)
        for kind in ("", "signal", "Plain", "plain\n", " plain", None, 0, True, ["plain"], ("plain",), {}):
            self.assert_is_plan(((("a", kind),), (), (), ()), False)

    def test_overlaps(self):
        for overlap, expected in (
            ((), True),
            ((("a", 0, 1),), True),
            ((("a", 3, 3),), True),
            ((("a", 0, 1), ("a", 0, 1)), False),
            ((("a", 0, 1), ()), False),
            (((),), False),
            (("a", 0, 1), False),
            ((("a", 0),), False),
            ((("a", 0, 1, 2),), False),
            ([("a", 0, 1)], False),
            ((["a", 0, 1],), False),
            ([], False), ("", False), ({}, False), (None, False), (False, False), (0, False),
        ):
            self.assert_is_plan(((), (), (), (("s", ("b", 1), overlap),)), expected)

    def test_more_items_than_the_limits(self):
        stretches = tuple((f"s{at}", "crossing") for at in range(40))
        self.assert_is_plan((stretches, FULL[1] * 20, FULL[2] * 20, FULL[3] * 20), True)


class PlanTextErrorsTest(unittest.TestCase):
    def assert_bad(self, thing):
        for call in (lambda: plan_text(thing), lambda: plan_text(plan=thing)):
            with self.subTest(thing=thing):
                before = copy.deepcopy(thing)
                with self.assertRaises(BadPlan) as caught:
                    call()
                self.assertIs(caught.exception.thing, thing)
                self.assertEqual(thing, before)

    def test_values_that_are_no_plans(self):
        for thing in ANY_VALUES:
            self.assert_bad(thing)

    def test_spoiled_plans(self):
        for thing in spoiled(FULL):
            self.assert_bad(thing)


if __name__ == "__main__":
    unittest.main()
