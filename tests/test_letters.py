"""[5.2] Letters and answers: is_letter, is_answer, and the errors of hears."""

import itertools
import unittest

from clearline.errors import BadField, BadLetter, BadTaken
from clearline.field import begun_field, hears, is_answer, is_letter, passes
from tests.layouts import CROSS, LINE, PLANS
from tests.samples import (
    ANY_VALUES, EMPTY, LOOP, WRONG_NAMES, changed, raises, same_calls, wrong_kinds, wrong_lengths,
)

MANY = 10 ** 9
NUMBERS = (-1, 0, 1, 2, MANY, True, False, "1", None, (), (1,), [1], b"1")
SIDES = ("left", "right", "between", "", "Left", None, 0, True, (), ("left",), ["left"], {"left": 0})
BOOLS = (True, False, 0, 1, None, "True", (), [True])
# A gate, a signal, points, a plain stretch, a crossing that the plan has not, a train, and others.
NAMES = ("west", "sa", "p", "a", "x", "t", "open", "", None, 0, ("sa",), ["sa"], {"sa": 0})
STARTS = ("west", "east", "sa", "sb")
STRETCHES = ("w", "p", "a", "b", "q", "e")
WORDS = ("open", "stop", "throw", "look", "signal", "points", "seen", "Open", "", None, 0, ("open",), ["open"], {})
LETTERS = (("open", "sa", 3), ("stop", "west", 1), ("throw", "p", 7, "left"), ("look", "e", MANY))
ANSWERS = (
    ("signal", "sa", 3, 2, False), ("signal", "west", 0, 0, True), ("points", "q", 0, "between"),
    ("points", "p", 4, "right"), ("seen", "w", 1, True), ("seen", "q", MANY, False),
)
FIELD = begun_field(LOOP, (("p", "left"), ("q", "between")))


def is_number(thing, least):
    """Whether a value is an integer from least on."""
    return type(thing) is int and thing >= least


class FormTest(unittest.TestCase):
    def assert_answers(self, function, plan, thing, expected):
        with self.subTest(thing=thing):
            same_calls(self, function, {"plan": plan, "thing": thing}, expected)
            self.assertIs(function(plan, thing), expected)

    def test_letters_of_three(self):
        known = {"open": STARTS, "stop": STARTS, "look": STRETCHES}
        for word, name, number in itertools.product(WORDS, NAMES, NUMBERS):
            expected = type(word) is str and word in known and name in known[word] and is_number(number, 1)
            self.assert_answers(is_letter, LOOP, (word, name, number), expected)

    def test_letters_of_four(self):
        for word, name, side in itertools.product(WORDS, NAMES, SIDES):
            expected = word == "throw" and name == "p" and side in ("left", "right")
            self.assert_answers(is_letter, LOOP, (word, name, 1, side), expected)
        for number in NUMBERS:
            self.assert_answers(is_letter, LOOP, ("throw", "q", number, "right"), is_number(number, 1))

    def test_letters_to_each_name(self):
        for plan in PLANS:
            stretches = [name for name, _ in plan[0]]
            points = [name for name, kind in plan[0] if kind == "points"]
            starts = [item[0] for item in plan[2] + plan[3]]
            for name in stretches + starts + ["z", "zz"]:
                self.assert_answers(is_letter, plan, ("open", name, 1), name in starts)
                self.assert_answers(is_letter, plan, ("stop", name, 1), name in starts)
                self.assert_answers(is_letter, plan, ("look", name, 1), name in stretches)
                self.assert_answers(is_letter, plan, ("throw", name, 1, "left"), name in points)
                self.assert_answers(is_answer, plan, ("signal", name, 1, 1, True), name in starts)
                self.assert_answers(is_answer, plan, ("points", name, 1, "left"), name in points)
                self.assert_answers(is_answer, plan, ("seen", name, 1, True), name in stretches)

    def test_answers_of_gates_and_signals(self):
        for word, name in itertools.product(WORDS, NAMES):
            expected = word == "signal" and name in ("west", "sa")
            self.assert_answers(is_answer, LOOP, (word, name, 2, 1, False), expected)
        for last, opening, passed in itertools.product(NUMBERS, NUMBERS, (True, 0)):
            expected = is_number(last, 0) and is_number(opening, 0) and passed is True
            self.assert_answers(is_answer, LOOP, ("signal", "sb", last, opening, passed), expected)
        for passed in BOOLS:
            self.assert_answers(is_answer, LOOP, ("signal", "sb", 1, 1, passed), type(passed) is bool)

    def test_answers_of_points_and_detectors(self):
        for word, name, number in itertools.product(WORDS, NAMES, NUMBERS):
            expected = word == "points" and name == "p" and is_number(number, 0)
            self.assert_answers(is_answer, LOOP, (word, name, number, "between"), expected)
            expected = word == "seen" and name in ("p", "a") and is_number(number, 1)
            self.assert_answers(is_answer, LOOP, (word, name, number, False), expected)
        for lie in SIDES + BOOLS:
            self.assert_answers(is_answer, LOOP, ("points", "p", 1, lie), lie in ("left", "right", "between"))
            self.assert_answers(is_answer, LOOP, ("seen", "p", 1, lie), type(lie) is bool)

    def test_other_lengths_and_kinds(self):
        for letter in LETTERS:
            self.assert_answers(is_letter, LOOP, letter, True)
            self.assert_answers(is_answer, LOOP, letter, False)
            for thing in [*wrong_kinds(letter), *wrong_lengths(letter, lambda place: False)]:
                self.assert_answers(is_letter, LOOP, thing, False)
        for answer in ANSWERS:
            self.assert_answers(is_answer, LOOP, answer, True)
            self.assert_answers(is_letter, LOOP, answer, False)
            for thing in [*wrong_kinds(answer), *wrong_lengths(answer, lambda place: False)]:
                self.assert_answers(is_answer, LOOP, thing, False)
        self.assert_answers(is_letter, LOOP, ("open", "sa", 3, "left"), False)
        self.assert_answers(is_letter, LOOP, ("look", "p", 3, "left"), False)
        self.assert_answers(is_letter, LOOP, ("throw", "p", 3), False)
        self.assert_answers(is_letter, LOOP, ("throw", "p", "left"), False)

    def test_any_values(self):
        for thing in [*ANY_VALUES, LETTERS, ANSWERS, "open", ("open", "sa"), ("sa", "open", 3), (3, "sa", "open")]:
            self.assert_answers(is_letter, LOOP, thing, False)
            self.assert_answers(is_answer, LOOP, thing, False)
            self.assert_answers(is_letter, EMPTY, thing, False)

    def test_letters_and_answers_of_other_plans(self):
        for thing in LETTERS:
            self.assert_answers(is_letter, EMPTY, thing, False)
        for thing in ANSWERS:
            self.assert_answers(is_answer, EMPTY, thing, False)

    def test_what_is_answered_is_an_answer(self):
        for letter in LETTERS:
            self.assert_answers(is_answer, LOOP, hears(LOOP, FIELD, ("w",), letter)[1], True)
        self.assert_answers(is_answer, LOOP, passes(LOOP, FIELD, "sa")[1], True)


class BadTest(unittest.TestCase):
    def arguments(self, **others):
        return {**{"plan": LOOP, "field": FIELD, "taken": ("a", "w"), "letter": LETTERS[0]}, **others}

    def test_bad_taken(self):
        wrong = [("w", "a"), ("a", "a"), ("a", "w", "w"), ("z",), ("sa",), ("west",), ("a", "z"), ("A",), ["a", "w"],
                 ["a"], "a", "aw", {"a": 0}, (("a",),), ("a", None), ("a", 0), ("a", True), ("a", ["w"]),
                 (("a", 0, 1),)]
        wrong += [thing for thing in ANY_VALUES if thing != ()] + [("a", name) for name in WRONG_NAMES]
        for thing in wrong:
            with self.subTest(thing=thing):
                raises(self, hears, self.arguments(taken=thing), BadTaken, thing)
                raises(self, hears, self.arguments(taken=thing, letter=None), BadTaken, thing)

    def test_all_taken_are_right(self):
        for many in range(7):
            for taken in itertools.permutations(("a", "b", "e", "p", "q", "w"), many):
                arguments = self.arguments(taken=taken, letter=("look", "e", 1))
                if list(taken) == sorted(taken):
                    self.assertEqual(hears(**arguments), (FIELD, ("seen", "e", 1, "e" not in taken)))
                elif many < 4:
                    raises(self, hears, arguments, BadTaken, taken)

    def test_bad_letter(self):
        wrong = [*ANY_VALUES, *ANSWERS, ("open", "p", 1), ("look", "sa", 1), ("throw", "sa", 1, "left"),
                 ("throw", "a", 1, "left"), ("throw", "p", 1, "between"), ("open", "sa", 0), ("open", "sa", True)]
        for letter in LETTERS:
            wrong += [*wrong_kinds(letter), *wrong_lengths(letter, lambda place: False), changed(letter, (2,), 0)]
        for thing in wrong:
            with self.subTest(thing=thing):
                raises(self, hears, self.arguments(letter=thing), BadLetter, thing)

    def test_the_field_comes_first(self):
        for field in (None, (), FIELD[::-1], [*FIELD]):
            for taken, letter in itertools.product((("a",), ("w", "a"), None), (LETTERS[0], ("open", "p", 1), None)):
                raises(self, hears, self.arguments(field=field, taken=taken, letter=letter), BadField, field)

    def test_letters_of_another_plan(self):
        for plan, letter in ((LINE, ("open", "sa", 1)), (CROSS, ("throw", "x", 1, "left")), (CROSS, ("look", "w", 1))):
            field = begun_field(plan, ())
            raises(self, hears, {"plan": plan, "field": field, "taken": (), "letter": letter}, BadLetter, letter)


if __name__ == "__main__":
    unittest.main()
