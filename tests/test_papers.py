"""[11.2] Papers: judge_days, days_hold, least_price."""

import random
import unittest

from clearline.days import can_be_gone, days_hold, judge_days, least_price, price
from tests.day_oracle import FIRST, all_days, gone, random_wishes
from tests.layouts import LINE
from tests.samples import ANY_VALUES, EMPTY, LOOP, changed, same_calls, wrong_kinds, wrong_lengths
from tests.trains import BOTH, FACING, LEFT, SAMPLES, random_samples

# The best day comes from one's first route behind two's first one: all else costs something.
WISHES = (FIRST, ("one", 1, "two", 2), ("two", 1, "one", 2), ("one", 2, "two", 1))
DAYS = [day for day in all_days(BOTH) if price(LOOP, BOTH, WISHES, day) == 1]
TABLE = judge_days(LOOP, BOTH, WISHES)[2]
HOME = (2, 2)
# Two trains that go the same routes.
TWINS = (BOTH[0], ("x", BOTH[0][1]))


def table_with(table, count, number):
    """The table with another number at a count, or with a count more."""
    return tuple(sorted({**dict(table), count: number}.items()))


def table_without(table, count):
    """The table without a count."""
    return tuple(line for line in table if line[0] != count)


class PapersTest(unittest.TestCase):
    def assert_holds(self, thing, expected, plan=LOOP, journeys=BOTH, wishes=WISHES):
        with self.subTest(thing=thing):
            arguments = {"plan": plan, "journeys": journeys, "wishes": wishes, "thing": thing}
            same_calls(self, days_hold, arguments, expected)
            self.assertIs(days_hold(**arguments), expected)

    def assert_right(self, *things, **more):
        for thing in things:
            self.assert_holds(thing, True, **more)

    def assert_wrong(self, *things, **more):
        for thing in things:
            self.assert_holds(thing, False, **more)


class RightPapersTest(PapersTest):
    def test_the_judged_one(self):
        word, day, table = judge_days(LOOP, BOTH, WISHES)
        self.assertEqual(word, "least")
        self.assertIn(day, DAYS)
        self.assert_right((word, day, table))
        same_calls(self, least_price, {"plan": LOOP, "journeys": BOTH, "wishes": WISHES}, 1)

    def test_other_days_of_the_least_price(self):
        self.assertGreater(len(DAYS), 1)
        for day in all_days(BOTH):
            self.assert_holds(("least", day, TABLE), day in DAYS)

    def test_other_numbers(self):
        # Any number that is not too great will do but at the beginning and at the end.
        numbers = dict(TABLE)
        for count in numbers:
            for number in (numbers[count] - 1, numbers[count] - 7, -(10 ** 39)):
                # What leads there may be too great then.
                lower = {other: min(numbers[other], number) if other > count else numbers[other] for other in numbers}
                expected = self.keeps_the_clauses(lower)
                self.assert_holds(("least", DAYS[0], tuple(sorted(lower.items()))), expected)
        for count, number in numbers.items():
            table = table_with(TABLE, count, number - 1)
            self.assert_holds(("least", DAYS[0], table), self.keeps_the_clauses(dict(table)))
            table = table_with(TABLE, count, number + 1)
            self.assert_holds(("least", DAYS[0], table), self.keeps_the_clauses(dict(table)))

    def keeps_the_clauses(self, numbers):
        """Whether numbers at all counts of BOTH keep the clauses; there, whoever is not home may go."""
        if numbers[HOME] != 0 or numbers[(0, 0)] != 1:
            return False
        for one in range(3):
            for two in range(3):
                if one < 2:
                    cost = sum(1 for name, i, other, j in WISHES if (other, j) == ("one", one + 1) and two < i)
                    if numbers[(one, two)] > numbers[(one + 1, two)] + cost:
                        return False
                if two < 2:
                    cost = sum(1 for name, i, other, j in WISHES if (other, j) == ("two", two + 1) and one < i)
                    if numbers[(one, two)] > numbers[(one, two + 1)] + cost:
                        return False
        return True

    def test_other_counts(self):
        # On the line, no day leads to (1, 1), whence nobody may go; any number is right there.
        word, day, table = judge_days(LINE, FACING, ())
        self.assertNotIn((1, 1), dict(table))
        for number in (0, 1, -3, 10 ** 39):
            self.assert_right((word, day, table_with(table, (1, 1), number)), plan=LINE, journeys=FACING, wishes=())

    def test_other_counts_that_lead_somewhere(self):
        # Both stand on a, which no day leads to; whoever goes on then leads to counts of the table.
        more = {"journeys": TWINS, "wishes": ()}
        word, day, table = judge_days(LOOP, TWINS, ())
        self.assertNotIn((1, 1), dict(table))
        for number in (0, -1, -(10 ** 39)):
            self.assert_right((word, day, table_with(table, (1, 1), number)), **more)
        for number in (1, 2, 10 ** 39):
            self.assert_wrong((word, day, table_with(table, (1, 1), number)), **more)

    def test_other_counts_that_lead_to_other_counts(self):
        journeys = TWINS + BOTH[1:]
        more = {"journeys": journeys, "wishes": ()}
        word, day, table = judge_days(LOOP, journeys, ())
        self.assertNotIn((1, 1, 2), dict(table))
        one = table_with(table, (1, 1, 2), 0)
        two = table_with(one, (1, 1, 1), -1)
        three = table_with(two, (1, 1, 0), -2)
        self.assert_right((word, day, one), (word, day, two), (word, day, three), **more)
        for count in ((1, 1, 2), (1, 1, 1)):
            self.assert_wrong((word, day, table_without(three, count)), **more)
        self.assert_wrong((word, day, table_with(three, (1, 1, 0), 0)), **more)

    def test_no_trains(self):
        for plan in (LOOP, EMPTY):
            self.assertEqual(judge_days(plan, (), ()), ("least", (), (((), 0),)))
            self.assertEqual(least_price(plan, (), ()), 0)
            self.assert_right(("least", (), (((), 0),)), plan=plan, journeys=(), wishes=())
            self.assert_wrong(
                ("least", (), (((), 1),)), ("least", (), (((), -1),)), ("least", (), ()), ("least", ("a",), (((), 0),)),
                plan=plan, journeys=(), wishes=())


class WrongPapersTest(PapersTest):
    def test_other_days(self):
        for day in (
            ("one", "two"), (), DAYS[0] + ("one",), DAYS[0][1:], [*DAYS[0]], ("one", "one", "one", "two"), None, "one",
            ("one", "one", "two", "three"),
        ):
            self.assert_wrong(("least", day, TABLE))

    def test_a_day_that_cannot_be_gone(self):
        wishes = (("two", 1, "one", 2), ("one", 1, "two", 1))
        word, day, table = judge_days(LOOP, LEFT, wishes)
        self.assertEqual(price(LOOP, LEFT, wishes, day), 1)
        impossible = ("one", "two", "one")
        self.assertEqual(price(LOOP, LEFT, wishes, impossible), 0)
        self.assert_wrong((word, impossible, table), journeys=LEFT, wishes=wishes)
        self.assert_wrong((word, impossible, table_with(table, (0, 0), 0)), journeys=LEFT, wishes=wishes)
        self.assert_right((word, day, table), journeys=LEFT, wishes=wishes)
        # Of the right price, too.
        self.assert_wrong(("least", impossible, judge_days(LOOP, LEFT, ())[2]), journeys=LEFT, wishes=())

    def test_a_day_of_a_greater_price(self):
        dear = [day for day in all_days(BOTH) if price(LOOP, BOTH, WISHES, day) == 2]
        for day in dear:
            self.assert_wrong(("least", day, TABLE), ("least", day, table_with(TABLE, (0, 0), 2)))

    def test_a_count_left_out(self):
        for count, _ in TABLE:
            self.assert_wrong(("least", DAYS[0], table_without(TABLE, count)))
        self.assert_wrong(("least", DAYS[0], ()), ("least", DAYS[0], TABLE[:1]), ("least", DAYS[0], TABLE[-1:]))

    def test_a_count_left_out_to_which_the_day_does_not_lead(self):
        # The other train goes home first there.
        word, day, table = judge_days(LINE, FACING, ())
        for count in dict(table):
            self.assert_wrong((word, day, table_without(table, count)), plan=LINE, journeys=FACING, wishes=())

    def test_the_number_at_home(self):
        for number in (1, -1, 10 ** 39):
            self.assert_wrong(("least", DAYS[0], table_with(TABLE, HOME, number)))
        self.assert_wrong(("least", DAYS[0], table_with(TABLE, HOME, False)))

    def test_the_number_at_the_beginning(self):
        for number in (0, 2, -1, True, None):
            self.assert_wrong(("least", DAYS[0], table_with(TABLE, (0, 0), number)))

    def test_a_number_that_is_too_great(self):
        for count, number in TABLE:
            self.assert_wrong(("least", DAYS[0], table_with(TABLE, count, number + 1)))

    def test_a_table_in_another_order(self):
        self.assert_wrong(("least", DAYS[0], TABLE[::-1]))
        for at in range(len(TABLE) - 1):
            turned = TABLE[:at] + TABLE[at + 1:at + 2] + TABLE[at:at + 1] + TABLE[at + 2:]
            self.assert_wrong(("least", DAYS[0], turned))
        for at in range(len(TABLE)):
            self.assert_wrong(("least", DAYS[0], TABLE[:at] + TABLE[at:at + 1] + TABLE[at:]))
            twice = (TABLE[at][0], TABLE[at][1] - 1)
            self.assert_wrong(("least", DAYS[0], TABLE[:at] + (twice,) + TABLE[at:]))

    def test_something_that_is_no_count(self):
        for count in ((3, 0), (0, 3), (0, -1), (-1, 0), (0,), (0, 0, 0), (0, True), (), [0, 1], None, 0, "00", (0, "0")):
            lines = [line for line in TABLE if not isinstance(count, tuple)] or list(TABLE)
            self.assert_wrong(("least", DAYS[0], tuple(lines + [(count, 0)])), ("least", DAYS[0], ((count, 0), *lines)))
        # Where it would stand in the order.
        self.assert_wrong(
            ("least", DAYS[0], table_with(TABLE, (0, 3), 0)), ("least", DAYS[0], table_with(TABLE, (0,), 0)),
            ("least", DAYS[0], table_with(TABLE, (3, 0), 0)), ("least", DAYS[0], table_with(TABLE, (-1, 0), 0)),
            ("least", DAYS[0], table_with(TABLE, (0, 0, 0), 0)), ("least", DAYS[0], table_with(TABLE, (), 0)))

    def test_other_kinds_and_lengths(self):
        paper = ("least", DAYS[0], TABLE)
        for thing in wrong_kinds(paper):
            self.assert_wrong(thing)
        for thing in wrong_lengths(paper, lambda place: False):
            self.assert_wrong(thing)
        for word in ("", "Least", "most", "order", None, 0, True, ("least",)):
            self.assert_wrong((word, *paper[1:]))
        self.assert_wrong(*ANY_VALUES, paper[1:], paper[:2], paper + ((),), [*paper], TABLE, DAYS[0], (paper,))
        for place in ((0,), (1,), (2,), (1, 0), (2, 0), (2, 0, 0), (2, 0, 0, 0), (2, 3)):
            for value in ANY_VALUES:
                expected = type(value) is int and place == (2, 0, 0, 0) and value == 0
                self.assert_holds(changed(paper, place, value), expected)


class LeastTest(unittest.TestCase):
    def test_against_all_days(self):
        chance = random.Random(151)
        prices = []
        for plan, journeys in [*SAMPLES, *random_samples(40, 152, 3)]:
            if sum(len(row) for _, row in journeys) > 6:
                continue
            days = [day for day in all_days(journeys) if gone(plan, journeys, day)]
            for _ in range(3):
                wishes = random_wishes(chance, journeys)
                least = min(price(plan, journeys, wishes, day) for day in days)
                self.assertEqual(least_price(plan, journeys, wishes), least)
                word, day, table = paper = judge_days(plan, journeys, wishes)
                self.assertIn(day, days)
                self.assertEqual(price(plan, journeys, wishes, day), least)
                self.assertIs(days_hold(plan, journeys, wishes, paper), True)
                prices.append(least)
                for other in days[:20]:
                    expected = price(plan, journeys, wishes, other) == least
                    self.assertIs(days_hold(plan, journeys, wishes, (word, other, table)), expected)
        for least in (0, 1, 2, 3):
            self.assertGreater(prices.count(least), 2, least)

    def test_papers_of_long_journeys(self):
        chance = random.Random(153)
        for plan, journeys in [*SAMPLES, *random_samples(25, 154)]:
            counts = 1
            for _, row in journeys:
                counts *= len(row) + 1
            if counts > 400:
                continue
            wishes = random_wishes(chance, journeys)
            paper = judge_days(plan, journeys, wishes)
            self.assertIs(days_hold(plan, journeys, wishes, paper), True)
            self.assertIs(can_be_gone(plan, journeys, paper[1]), True)
            self.assertEqual(price(plan, journeys, wishes, paper[1]), least_price(plan, journeys, wishes))
            self.assertEqual(judge_days(plan, journeys, wishes), paper)


if __name__ == "__main__":
    unittest.main()
