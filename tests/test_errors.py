"""[0.2] The error classes."""

import inspect
import unittest

from clearline import errors

PARAMETERS = {
    "BadPlan": "thing", "BadText": "line", "BadChecked": "thing", "BadEnd": "thing", "BadRoute": "thing",
    "BadLies": "thing", "BadStanding": "thing", "BadNames": "thing", "BadMove": "thing", "BadField": "thing",
    "BadTaken": "thing", "BadLetter": "thing", "BadName": "thing", "BadJourneys": "thing", "BadCount": "thing",
    "BadTrain": "thing", "BadBook": "thing", "BadOrder": "thing", "BadAnswer": "thing", "BadLog": "thing",
    "BadDeeds": "thing", "BadDeed": "thing", "BadChoices": "thing", "BadWorld": "thing", "BadWishes": "thing",
    "BadDay": "thing", "BadPair": "thing",
}
VALUES = (None, True, False, 0, 3, -1, "", "a\nb", (), ((), ("a", 1)), [], [1, [2]], {}, {"a": [None]}, object())


class ErrorsTest(unittest.TestCase):
    def classes(self):
        return [(name, getattr(errors, name), PARAMETERS[name]) for name in PARAMETERS]

    def test_there_are_just_the_listed_classes(self):
        defined = [name for name, kind in inspect.getmembers(errors, inspect.isclass)]
        self.assertEqual(sorted(defined), sorted([*PARAMETERS, "LineError"]))

    def test_bases(self):
        self.assertEqual(errors.LineError.__bases__, (Exception,))
        for name, kind, _ in self.classes():
            with self.subTest(name):
                self.assertEqual(kind.__bases__, (errors.LineError,))
                self.assertEqual(kind.__module__, "clearline.errors")
                self.assertEqual(kind.__name__, name)

    def test_no_class_is_another_one(self):
        for name, kind, _ in self.classes():
            for other_name, other, _ in self.classes():
                self.assertEqual(issubclass(kind, other), name == other_name)

    def test_the_parameter_is_an_attribute(self):
        for name, kind, parameter in self.classes():
            for value in VALUES:
                with self.subTest(name, value=value):
                    by_position = kind(value)
                    by_name = kind(**{parameter: value})
                    self.assertIs(getattr(by_position, parameter), value)
                    self.assertIs(getattr(by_name, parameter), value)
                    self.assertEqual(vars(by_position), {parameter: value})
                    self.assertEqual(vars(by_name), {parameter: value})

    def test_there_is_just_one_parameter(self):
        for name, kind, parameter in self.classes():
            with self.subTest(name):
                self.assertEqual(list(inspect.signature(kind).parameters), [parameter])
                with self.assertRaises(TypeError):
                    kind()
                with self.assertRaises(TypeError):
                    kind(1, 2)

    def test_they_are_raised_and_caught_as_line_errors(self):
        for name, kind, parameter in self.classes():
            with self.subTest(name):
                with self.assertRaises(errors.LineError) as caught:
                    raise kind(("a", 1))
                self.assertIs(type(caught.exception), kind)
                self.assertEqual(getattr(caught.exception, parameter), ("a", 1))


if __name__ == "__main__":
    unittest.main()
