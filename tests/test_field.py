"""[5.1] Elements: begun_field, is_field, hears, passes, settles, shows_of, lies_now."""

import itertools
import unittest

from clearline.errors import BadField, BadLies, BadName
from clearline.field import begun_field, hears, is_field, lies_now, passes, settles, shows_of
from clearline.plans import read_plan
from clearline.tracks import is_standing
from tests.layouts import CROSS, LADDER, LINE, PLANS
from tests.samples import (
    ANY_VALUES, EMPTY, LOOP, WRONG_NAMES, changed, raises, same_calls, wrong_kinds, wrong_lengths,
)

SIDES = ("left", "right")
POSITIONS = ("left", "right", "between")
MANY = 10 ** 9
# west, east, sa, sb; p, q.
FIELD = (
    ((5, 3, False, True), (7, 7, True, False), (0, 0, False, False), (9, 4, False, True)),
    ((5, "right", "between"), (3, "left", "left")),
)
STARTS = ("west", "east", "sa", "sb")


def put(field, group, at, element):
    """The field with another element."""
    return changed(field, (group, at), element)


class BegunTest(unittest.TestCase):
    def test_begun_fields(self):
        begun = {"left": (0, "left", "left"), "right": (0, "right", "right"), "between": (0, "left", "between")}
        for plan in PLANS:
            points = [name for name, kind in plan[0] if kind == "points"]
            signals = tuple((0, 0, False, False) for _ in plan[2] + plan[3])
            for positions in itertools.product(POSITIONS, repeat=len(points)):
                lies = tuple(zip(points, positions))
                expected = (signals, tuple(begun[position] for position in positions))
                same_calls(self, begun_field, {"plan": plan, "lies": lies}, expected)
                self.assertIs(is_field(plan, expected), True)
                self.assertEqual([shows_of(plan, expected), lies_now(plan, expected)], [(), lies])

    def test_the_values_are_no_integers_for_bools(self):
        for element in begun_field(LOOP, (("p", "left"), ("q", "left")))[0]:
            self.assertEqual([type(value) for value in element], [int, int, bool, bool])

    def test_values_that_are_no_lies(self):
        lies = (("p", "left"), ("q", "between"))
        wrong = [(), lies[:1], lies[::-1], lies + lies[:1], lies[:1] * 2, (("p", "left"), ("q", "up"))]
        for thing in [*wrong, *ANY_VALUES, *wrong_kinds(lies), *wrong_lengths(lies, lambda place: False)]:
            with self.subTest(thing=thing):
                raises(self, begun_field, {"plan": LOOP, "lies": thing}, BadLies, thing)
        raises(self, begun_field, {"plan": LINE, "lies": lies}, BadLies, lies)


class FormTest(unittest.TestCase):
    def assert_is_field(self, plan, thing, expected):
        with self.subTest(thing=thing):
            same_calls(self, is_field, {"plan": plan, "thing": thing}, expected)
            self.assertIs(is_field(plan, thing), expected)

    def test_elements_by_their_form(self):
        numbers = (0, 1, 7, MANY)
        for last, opening, passed, shows in itertools.product(numbers, numbers, (True, False), (True, False)):
            self.assert_is_field(LOOP, put(FIELD, 0, 2, (last, opening, passed, shows)), True)
        for last, wish, lie in itertools.product(numbers, SIDES, POSITIONS):
            self.assert_is_field(LOOP, put(FIELD, 1, 1, (last, wish, lie)), True)
        self.assert_is_field(EMPTY, ((), ()), True)

    def test_wrong_numbers_and_words(self):
        for group, at in itertools.product((0, 1), (0, 1)):
            for number in (-1, -MANY, True, False, "0", None, (), [], b"0"):
                self.assert_is_field(LOOP, changed(FIELD, (group, at, 0), number), False)
        for number in (-1, True, False, "0", None):
            self.assert_is_field(LOOP, changed(FIELD, (0, 3, 1), number), False)
        for place in ((0, 1, 2), (0, 1, 3)):
            for value in (0, 1, None, "True", (), [True]):
                self.assert_is_field(LOOP, changed(FIELD, place, value), False)
        for wish in ("between", "", "Left", "p", None, 0, True, ("left",), ["left"]):
            self.assert_is_field(LOOP, changed(FIELD, (1, 0, 1), wish), False)
        for lie in ("", "Between", "p", None, 0, True, ("left",), ["left"]):
            self.assert_is_field(LOOP, changed(FIELD, (1, 0, 2), lie), False)

    def test_other_numbers_of_elements(self):
        signal, points = FIELD[0][0], FIELD[1][0]
        for signals, many in itertools.product(range(7), range(5)):
            self.assert_is_field(LOOP, ((signal,) * signals, (points,) * many), (signals, many) == (4, 2))
        self.assert_is_field(LOOP, FIELD[::-1], False)
        self.assert_is_field(LOOP, put(FIELD, 0, 0, points), False)
        self.assert_is_field(LOOP, put(FIELD, 1, 0, signal), False)
        for plan in PLANS:
            points = [name for name, kind in plan[0] if kind == "points"]
            self.assert_is_field(plan, FIELD, (len(plan[2] + plan[3]), len(points)) == (4, 2))

    def test_any_values(self):
        self.assert_is_field(LOOP, FIELD, True)
        for thing in [*ANY_VALUES, *wrong_kinds(FIELD), *wrong_lengths(FIELD, lambda place: False), FIELD[0], LOOP]:
            self.assert_is_field(LOOP, thing, False)

    def test_bad_field(self):
        wrong = [*ANY_VALUES, *wrong_kinds(FIELD), *wrong_lengths(FIELD, lambda place: False), FIELD[::-1],
                 changed(FIELD, (0, 0, 0), -1), changed(FIELD, (1, 0, 1), "between")]
        for thing in wrong:
            with self.subTest(thing=thing):
                start = {"plan": LOOP, "field": thing}
                raises(self, hears, {**start, "taken": (), "letter": ("open", "sa", 1)}, BadField, thing)
                raises(self, passes, {**start, "name": "sa"}, BadField, thing)
                raises(self, settles, {**start, "name": "p"}, BadField, thing)
                raises(self, shows_of, start, BadField, thing)
                raises(self, lies_now, start, BadField, thing)


class LettersTest(unittest.TestCase):
    def assert_hears(self, field, letter, expected, taken=()):
        with self.subTest(field=field, letter=letter):
            same_calls(self, hears, {"plan": LOOP, "field": field, "taken": taken, "letter": letter}, expected)
            self.assertIs(is_field(LOOP, expected[0]), True)

    def test_letters_to_gates_and_signals(self):
        for at, name in enumerate(STARTS):
            for last, opening, passed, shows in (
                (5, 3, False, True), (5, 3, True, False), (5, 5, False, True), (5, 5, True, False),
                (5, 0, False, False), (5, 9, False, False), (5, 4, True, True), (0, 0, False, False),
                (MANY - 1, 2, True, False),
            ):
                field = put(FIELD, 0, at, (last, opening, passed, shows))
                for number in {1, max(last - 1, 1), max(last, 1), last + 1, last + 2, MANY}:
                    opened, stopped = (last, opening, passed, shows), (last, opening, passed, shows)
                    if number > last:
                        opened, stopped = (number, number, False, True), (number, opening, passed, False)
                    for word, now in (("open", opened), ("stop", stopped)):
                        answer = ("signal", name, now[0], now[1], now[2])
                        self.assert_hears(field, (word, name, number), (put(field, 0, at, now), answer))

    def test_an_opening_after_a_stop(self):
        field = begun_field(LOOP, (("p", "left"), ("q", "left")))
        for letter, element in (
            (("open", "sa", 2), (2, 2, False, True)),
            (("stop", "sa", 2), (2, 2, False, True)),
            (("stop", "sa", 1), (2, 2, False, True)),
            (("stop", "sa", 3), (3, 2, False, False)),
            (("open", "sa", 3), (3, 2, False, False)),
            (("stop", "sa", 3), (3, 2, False, False)),
            (("open", "sa", 7), (7, 7, False, True)),
            (("open", "sa", 5), (7, 7, False, True)),
        ):
            expected = put(field, 0, 2, element)
            self.assert_hears(field, letter, (expected, ("signal", "sa") + element[:3]))
            field = expected

    def test_letters_to_points(self):
        for at, name in enumerate(("p", "q")):
            for last, wish, lie, side in itertools.product((0, 5), SIDES, POSITIONS, SIDES):
                field = put(FIELD, 1, at, (last, wish, lie))
                for number in {1, max(last - 1, 1), max(last, 1), last + 1, last + 2, MANY}:
                    now = (last, wish, lie)
                    if number > last:
                        now = (number, side, side if lie == side else "between")
                    answer = ("points", name, now[0], now[2])
                    self.assert_hears(field, ("throw", name, number, side), (put(field, 1, at, now), answer))

    def test_letters_to_detectors(self):
        stretches = ("a", "b", "e", "p", "q", "w")
        for many in (0, 1, 2, 6):
            for taken in itertools.combinations(stretches, many):
                for name in stretches:
                    for number in (1, 5, MANY):
                        answer = ("seen", name, number, name not in taken)
                        self.assert_hears(FIELD, ("look", name, number), (FIELD, answer), taken)
        free = hears(LOOP, FIELD, ("a",), ("look", "b", 1))[1][3]
        self.assertIs(free, True)
        self.assertIs(hears(LOOP, FIELD, ("a",), ("look", "a", 1))[1][3], False)

    def test_what_is_taken_counts_for_detectors_alone(self):
        for letter in (("open", "sa", 3), ("stop", "west", 6), ("throw", "q", 4, "right")):
            expected = hears(LOOP, FIELD, (), letter)
            for taken in (("a",), ("a", "p", "q", "w"), ("q",)):
                self.assert_hears(FIELD, letter, expected, taken)

    def test_gates_come_before_signals(self):
        text = "stretch b plain\nstretch a plain\njoin a 1 b 0\ngate z a 0\ngate y b 1\nsignal a1 b 0\nsignal a0 a 1"
        plan = read_plan(text)
        field = begun_field(plan, ())
        for at, name in enumerate(("z", "y", "a1", "a0")):
            now = put(field, 0, at, (1, 1, False, True))
            self.assertEqual(hears(plan, field, (), ("open", name, 1)), (now, ("signal", name, 1, 1, False)))
            self.assertEqual(shows_of(plan, now), (name,))


class PassingAndSettlingTest(unittest.TestCase):
    def test_passing(self):
        for at, name in enumerate(STARTS):
            for last, opening, passed, shows in itertools.product((0, 5), (0, 3), (True, False), (True, False)):
                field = put(FIELD, 0, at, (last, opening, passed, shows))
                expected = (put(field, 0, at, (last, opening, True, False)), ("signal", name, last, opening, True))
                same_calls(self, passes, {"plan": LOOP, "field": field, "name": name}, expected)

    def test_settling(self):
        for at, name in enumerate(("p", "q")):
            for last, wish, lie in itertools.product((0, 5), SIDES, POSITIONS):
                field = put(FIELD, 1, at, (last, wish, lie))
                expected = put(field, 1, at, (last, wish, wish)) if lie == "between" else field
                same_calls(self, settles, {"plan": LOOP, "field": field, "name": name}, expected)

    def test_names_that_are_no_gates_and_signals(self):
        for name in ("p", "q", "w", "a", "z", "Sa", "sa ", *WRONG_NAMES, *ANY_VALUES, ("sa",), ["sa"], STARTS):
            raises(self, passes, {"plan": LOOP, "field": FIELD, "name": name}, BadName, name)

    def test_names_that_are_no_points(self):
        for name in ("sa", "west", "w", "a", "z", "P", "p ", *WRONG_NAMES, *ANY_VALUES, ("p",), ["p"], ("p", "q")):
            raises(self, settles, {"plan": LOOP, "field": FIELD, "name": name}, BadName, name)
        field = begun_field(CROSS, ())
        for name in ("x", "a", "west"):
            raises(self, settles, {"plan": CROSS, "field": field, "name": name}, BadName, name)


class ShowsAndLiesTest(unittest.TestCase):
    def test_shows(self):
        for shows in itertools.product((True, False), repeat=4):
            signals = tuple((4, 2, not show, show) for show in shows)
            expected = tuple(sorted(name for name, show in zip(STARTS, shows) if show))
            same_calls(self, shows_of, {"plan": LOOP, "field": (signals, FIELD[1])}, expected)

    def test_lies(self):
        for one, other, wish in itertools.product(POSITIONS, POSITIONS, SIDES):
            field = (FIELD[0], ((3, wish, one), (0, wish, other)))
            same_calls(self, lies_now, {"plan": LOOP, "field": field}, (("p", one), ("q", other)))

    def test_lies_are_in_the_order_of_the_plan(self):
        plan = ((("z", "points"), ("a", "plain"), ("y", "points")), (), (), ())
        field = ((), ((0, "left", "right"), (0, "left", "between")))
        self.assertEqual(lies_now(plan, field), (("z", "right"), ("y", "between")))

    def test_they_make_a_standing(self):
        for plan in (LOOP, LINE, CROSS, LADDER, EMPTY):
            points = [name for name, kind in plan[0] if kind == "points"]
            field = begun_field(plan, tuple((name, "right") for name in points))
            for number, start in enumerate([item[0] for item in plan[2] + plan[3]], start=1):
                self.assertIs(is_standing(plan, ((), lies_now(plan, field), shows_of(plan, field))), True)
                field = hears(plan, field, (), ("open", start, number))[0]
            self.assertEqual(shows_of(plan, field), tuple(sorted(item[0] for item in plan[2] + plan[3])))


if __name__ == "__main__":
    unittest.main()
