"""[11.1] Days: can_be_gone, price, wishes and days."""

import random
import unittest

from clearline.days import can_be_gone, days_hold, judge_days, least_price, price
from clearline.errors import BadDay, BadWishes
from clearline.journeys import going_trains
from tests import box_oracle
from tests.day_oracle import AGAINST, FIRST, all_days, broken, gone, random_wishes
from tests.layouts import LINE
from tests.samples import ANY_VALUES, EMPTY, LOOP, raises, same_calls, wrong_kinds
from tests.trains import BOTH, FACING, LEFT, SAMPLES, random_samples

class GoneTest(unittest.TestCase):
    def assert_gone(self, plan, journeys, thing, expected):
        with self.subTest(thing=thing):
            same_calls(self, can_be_gone, {"plan": plan, "journeys": journeys, "thing": thing}, expected)
            self.assertIs(can_be_gone(plan, journeys, thing), expected)

    def test_days(self):
        # On the loop the two trains stand on different tracks.
        for day in all_days(BOTH):
            self.assert_gone(LOOP, BOTH, day, True)
        # Two cannot go while one stands on a.
        for day in all_days(LEFT):
            self.assert_gone(LOOP, LEFT, day, day != ("one", "two", "one"))
        # On the line, one goes home before the other one comes in.
        for day in all_days(FACING):
            self.assert_gone(LINE, FACING, day, day in (("t", "t", "u", "u"), ("u", "u", "t", "t")))

    def test_the_lines_at_the_gates_are_not_looked_at(self):
        journeys = (BOTH[0], ("x", BOTH[0][1]))
        self.assert_gone(LOOP, journeys, ("x", "x", "one", "one"), True)
        self.assert_gone(LOOP, journeys, ("x", "one", "x", "one"), False)

    def test_no_trains(self):
        self.assert_gone(LOOP, (), (), True)
        self.assert_gone(EMPTY, (), (), True)
        self.assert_gone(EMPTY, (), ("one",), False)

    def test_no_days(self):
        for thing in (
            (), ("one",), ("one", "two"), ("one", "two", "one"), ("one", "one", "two", "two", "two"),
            ("one", "one", "one", "two"), ("one", "two", "three", "two"), ("one", "one", "two", "two", "three"),
            ["one", "one", "two", "two"], "oneonetwotwo", ("one", "one", "two", None), ("one", "one", "two", ("two",)),
            ("one", "one", "two", ["two"]), ("one", "one", "two", 0), {"one": 2, "two": 2}, (("one", "one"), ("two", "two")),
            ("One", "one", "two", "two"), ("one", "one", "two", True), BOTH, LOOP,
        ):
            self.assert_gone(LOOP, BOTH, thing, False)
        for value in ANY_VALUES:
            self.assert_gone(LOOP, BOTH, value, False)
            self.assert_gone(LOOP, BOTH, ("one", value, "two", "two"), False)

    def test_all_days(self):
        chance = random.Random(141)
        found = []
        for plan, journeys in [*SAMPLES, *random_samples(25, 142)]:
            trains = [train for train, row in journeys for _ in row]
            for _ in range(12):
                chance.shuffle(trains)
                expected = gone(plan, journeys, tuple(trains))
                self.assertIs(can_be_gone(plan, journeys, tuple(trains)), expected)
                found.append(expected)
        self.assertGreater(found.count(True), 40)
        self.assertGreater(found.count(False), 40)

    def test_whoever_may_go(self):
        chance = random.Random(143)
        for plan, journeys in [*SAMPLES, *random_samples(25, 144)]:
            count, day = (0,) * len(journeys), ()
            while going_trains(plan, journeys, count):
                day = day + (chance.choice(going_trains(plan, journeys, count)),)
                count = box_oracle.gone(count, [name for name, _ in journeys].index(day[-1]))
            self.assertIs(can_be_gone(plan, journeys, day), True)


class PriceTest(unittest.TestCase):
    def assert_price(self, wishes, day, expected, journeys=BOTH):
        same_calls(self, price, {"plan": LOOP, "journeys": journeys, "wishes": wishes, "day": day}, expected)

    def test_wishes(self):
        for wish, day, expected in (
            (FIRST, ("one", "one", "two", "two"), 1), (FIRST, ("one", "two", "one", "two"), 1),
            (FIRST, ("two", "one", "one", "two"), 0), (FIRST, ("two", "two", "one", "one"), 0),
            (AGAINST, ("one", "two", "one", "two"), 0), (AGAINST, ("two", "one", "one", "two"), 1),
            (("two", 2, "one", 1), ("two", "one", "two", "one"), 1), (("two", 2, "one", 1), ("two", "two", "one", "one"), 0),
            (("two", 2, "one", 2), ("two", "one", "two", "one"), 0), (("two", 1, "one", 2), ("one", "two", "one", "two"), 0),
            (("two", 1, "one", 2), ("one", "one", "two", "two"), 1),
        ):
            self.assert_price((wish,), day, expected)

    def test_several_wishes(self):
        day = ("one", "two", "one", "two")
        self.assert_price((), day, 0)
        self.assert_price((FIRST, AGAINST), day, 1)
        # Each counts as often as it occurs.
        self.assert_price((FIRST, FIRST), day, 2)
        self.assert_price((FIRST, AGAINST, FIRST, AGAINST, FIRST), day, 3)
        self.assert_price((AGAINST,) * 12, day, 0)
        self.assert_price((FIRST,) * 12, day, 12)

    def test_a_day_that_cannot_be_gone(self):
        day = ("one", "two", "one")
        self.assertIs(can_be_gone(LOOP, LEFT, day), False)
        self.assert_price((("two", 1, "one", 2),), day, 0, LEFT)
        self.assert_price((("two", 1, "one", 1),), day, 1, LEFT)

    def test_no_trains(self):
        self.assert_price((), (), 0, ())

    def test_all_days(self):
        chance = random.Random(145)
        for plan, journeys in [*SAMPLES, *random_samples(25, 146)]:
            trains = [train for train, row in journeys for _ in row]
            for _ in range(10):
                chance.shuffle(trains)
                wishes = random_wishes(chance, journeys)
                expected = sum(broken(trains, wish) for wish in wishes)
                self.assertEqual(price(plan, journeys, wishes, tuple(trains)), expected)


class BadWishesTest(unittest.TestCase):
    def assert_bad(self, *things):
        day = ("one", "one", "two", "two")
        for thing in things:
            arguments = {"plan": LOOP, "journeys": BOTH, "wishes": thing}
            with self.subTest(thing=thing):
                raises(self, price, {**arguments, "day": day}, BadWishes, thing)
                # Ahead of a bad day.
                for other in (None, (), day[1:], [*day]):
                    raises(self, price, {**arguments, "day": other}, BadWishes, thing)
                raises(self, judge_days, arguments, BadWishes, thing)
                raises(self, least_price, arguments, BadWishes, thing)
                raises(self, days_hold, {**arguments, "thing": None}, BadWishes, thing)

    def assert_bad_wish(self, *things):
        for thing in things:
            self.assert_bad((thing,), (FIRST, thing), (thing, FIRST))

    def test_the_same_train_twice(self):
        self.assert_bad_wish(("one", 1, "one", 2), ("one", 2, "one", 1), ("two", 1, "two", 1))

    def test_numbers(self):
        for number in (0, -1, 3, 4, 10 ** 39, -(10 ** 39), True, False, None, "1", (1,), [1]):
            self.assert_bad_wish(("one", number, "two", 1), ("one", 1, "two", number))
        for number in (1, 2):
            self.assertEqual(price(LOOP, BOTH, (("one", number, "two", 2),), ("one", "one", "two", "two")), 0)
        # Each number has the bound of its own train.
        wishes = (("one", 1, "two", 2),)
        raises(self, least_price, {"plan": LOOP, "journeys": LEFT, "wishes": wishes}, BadWishes, wishes)
        self.assertEqual(least_price(LOOP, LEFT, (("one", 2, "two", 1),)), 0)

    def test_trains(self):
        for train in ("three", "", "One", "a", "west", None, 0, True, (), ("one",), ["one"], {}):
            self.assert_bad_wish((train, 1, "one", 1), ("one", 1, train, 1))

    def test_other_kinds_and_lengths(self):
        self.assert_bad_wish(
            (), FIRST[:3], FIRST[1:], FIRST + (1,), [*FIRST], "two", None, 0, (FIRST,), {}, ("two", "one", 1, 1))
        self.assert_bad(*[thing for thing in wrong_kinds((FIRST, AGAINST))])
        self.assert_bad(FIRST, [FIRST], {FIRST: 1}, *[value for value in ANY_VALUES if value != ()])

    def test_no_trains(self):
        wishes = (FIRST,)
        for function in (judge_days, least_price):
            raises(self, function, {"plan": LOOP, "journeys": (), "wishes": wishes}, BadWishes, wishes)

    def test_bad_days(self):
        for thing in (
            ("one", "one", "two"), ("one", "one", "two", "two", "two"), ("one", "one", "one", "two"), (),
            ["one", "one", "two", "two"], ("one", "one", "two", "three"), ("one", "one", "two", None), BOTH, *ANY_VALUES,
        ):
            arguments = {"plan": LOOP, "journeys": BOTH, "wishes": (FIRST,), "day": thing}
            raises(self, price, arguments, BadDay, thing)
            raises(self, price, {**arguments, "wishes": ()}, BadDay, thing)


if __name__ == "__main__":
    unittest.main()
