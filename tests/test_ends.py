"""joined_to and at_end."""

import copy
import unittest

from clearline.checker import at_end, joined_to
from clearline.errors import BadChecked, BadEnd, BadPlan
from clearline.plans import read_plan
from tests.samples import ANY_VALUES, EMPTY, FAULTY, FULL, LOOP, WORDS, WRONG_NAMES, WRONG_NUMBERS, spoiled

ENDS = {"plain": 2, "points": 3, "crossing": 4}
UNCHECKED = (
    FAULTY,
    read_plan("stretch a plain\nstretch a plain"),
    read_plan("stretch a plain\njoin a 0 z 0"),
    read_plan("stretch a plain\njoin a 0 a 1"),
    read_plan("stretch a points\ngate g a 0"),
    read_plan("stretch a plain\nsignal s a 0"),
    read_plan("stretch a plain\nstretch b plain\njoin a 1 b 0\nsignal s a 1 over b 1 0"),
)


def ends_of(plan):
    """All ends of the stretches of a plan."""
    return [(name, number) for name, kind in plan[0] for number in range(ENDS[kind])]


class EndsTest(unittest.TestCase):
    def assert_raises_both(self, plan, end, error, thing):
        for call in (lambda: joined_to(plan, end), lambda: at_end(plan, end),
                     lambda: joined_to(plan=plan, end=end), lambda: at_end(end=end, plan=plan)):
            with self.subTest(plan=plan, end=end):
                before = copy.deepcopy((plan, end))
                with self.assertRaises(error) as caught:
                    call()
                self.assertIs(type(caught.exception), error)
                self.assertIs(caught.exception.thing, thing)
                self.assertEqual((plan, end), before)

    def test_joined_ends(self):
        for plan in (LOOP, FULL, WORDS):
            for end in ends_of(plan):
                expected = None
                for one, other in plan[1]:
                    expected = other if one == end else one if other == end else expected
                with self.subTest(plan=plan, end=end):
                    self.assertEqual(joined_to(plan, end), expected)
                    self.assertEqual(joined_to(plan=plan, end=end), expected)
                    self.assertEqual(joined_to(plan, end), expected)

    def test_joined_ends_of_the_full_plan(self):
        self.assertEqual(joined_to(FULL, ("a", 1)), ("o", 0))
        self.assertEqual(joined_to(FULL, ("o", 0)), ("a", 1))
        self.assertEqual(joined_to(FULL, ("x", 2)), ("b", 1))
        self.assertEqual(joined_to(FULL, ("x", 1)), ("p", 0))
        for end in (("a", 0), ("b", 0), ("x", 3), ("p", 1), ("p", 2)):
            self.assertIsNone(joined_to(FULL, end))

    def test_what_stands_at_ends(self):
        at_full = {("a", 0): ("gate", "west"), ("a", 1): ("signal", "s"), ("o", 1): ("signal", "u"),
                   ("b", 1): ("signal", "v")}
        at_loop = {("w", 0): ("gate", "west"), ("e", 1): ("gate", "east"), ("a", 1): ("signal", "sa"),
                   ("b", 0): ("signal", "sb")}
        for plan, expected in ((FULL, at_full), (LOOP, at_loop)):
            for end in ends_of(plan):
                with self.subTest(plan=plan, end=end):
                    self.assertEqual(at_end(plan, end), expected.get(end))
                    self.assertEqual(at_end(plan=plan, end=end), expected.get(end))
                    self.assertEqual(at_end(plan, end), expected.get(end))

    def test_two_gates_of_one_stretch(self):
        plan = read_plan("stretch a plain\ngate g a 1\ngate h a 0")
        self.assertEqual([at_end(plan, ("a", 0)), at_end(plan, ("a", 1))], [("gate", "h"), ("gate", "g")])

    def test_signals_at_both_ends_of_a_joint(self):
        plan = read_plan("stretch a plain\nstretch b plain\njoin a 1 b 0\nsignal s a 1\nsignal u b 0")
        self.assertEqual([at_end(plan, ("a", 1)), at_end(plan, ("b", 0))], [("signal", "s"), ("signal", "u")])

    def test_values_that_are_no_ends(self):
        wrong = [("a", 2), ("a", 3), ("p", 3), ("x", 4), ("a", -1), ("z", 0), ("west", 0), ("s", 0), ("aa", 0),
                 ["a", 0], ("a",), ("a", 0, 1), ("a", 0, ()), (0, "a"), ("a", "0"), ("a", True), ("a", False),
                 ("a", 0, 0), {"a": 0}, "a0", "a", ("a", None), (("a", 0),), ("A", 0), ("plain", 0)]
        wrong += [(name, 0) for name in WRONG_NAMES] + [("a", number) for number in WRONG_NUMBERS]
        for end in [*wrong, *ANY_VALUES]:
            self.assert_raises_both(FULL, end, BadEnd, end)

    def test_each_end_of_another_plan(self):
        for end in ends_of(LOOP):
            if end not in ends_of(FULL):
                self.assert_raises_both(FULL, end, BadEnd, end)
            self.assert_raises_both(EMPTY, end, BadEnd, end)

    def test_values_that_are_no_plans_come_first(self):
        for plan in [*ANY_VALUES, *spoiled(FULL)]:
            for end in (("a", 0), None, []):
                self.assert_raises_both(plan, end, BadPlan, plan)

    def test_plans_with_a_fault_come_second(self):
        for plan in UNCHECKED:
            for end in (("a", 0), ("z", 0), None, [], ("a", True)):
                self.assert_raises_both(plan, end, BadChecked, plan)


if __name__ == "__main__":
    unittest.main()
