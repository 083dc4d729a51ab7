"""The interface: names, parameters, and the files that define them."""

import importlib
import inspect
import unittest

from clearline.worlds import World

INTERFACE = {
    "clearline.plans": {"is_plan": ["thing"], "plan_text": ["plan"], "read_plan": ["text"]},
    "clearline.checker": {
        "fault": ["plan"], "is_checked": ["plan"], "joined_to": ["plan", "end"], "at_end": ["plan", "end"],
    },
    "clearline.routes": {
        "routes": ["plan"], "is_route": ["plan", "thing"], "overlap_of": ["plan", "route"],
        "berth_of": ["plan", "route"], "needs": ["plan", "route"], "lies_of": ["plan", "route"],
        "do_bar": ["plan", "one", "other"],
    },
    "clearline.tracks": {
        "is_standing": ["plan", "thing"], "bare": ["plan", "lies"], "taken": ["plan", "standing"],
        "is_safe": ["plan", "standing"], "moves": ["plan", "standing", "names"],
        "moved": ["plan", "standing", "move"],
    },
    "clearline.field": {
        "is_letter": ["plan", "thing"], "is_answer": ["plan", "thing"], "begun_field": ["plan", "lies"],
        "is_field": ["plan", "thing"], "hears": ["plan", "field", "taken", "letter"],
        "passes": ["plan", "field", "name"], "settles": ["plan", "field", "name"], "shows_of": ["plan", "field"],
        "lies_now": ["plan", "field"],
    },
    "clearline.journeys": {
        "are_journeys": ["plan", "thing"], "held": ["plan", "journeys", "count"],
        "wanted": ["plan", "journeys", "count"], "judge_count": ["plan", "journeys", "count"],
        "count_holds": ["plan", "journeys", "count", "thing"], "is_homely": ["plan", "journeys", "count"],
        "judge_going": ["plan", "journeys", "count", "train"],
        "going_holds": ["plan", "journeys", "count", "train", "thing"],
        "going_trains": ["plan", "journeys", "count"],
    },
    "clearline.box": {
        "is_book": ["plan", "journeys", "thing"], "begun_book": ["plan", "journeys"],
        "room_of": ["plan", "journeys", "book", "train"], "ordered": ["plan", "journeys", "book", "order"],
        "told": ["plan", "journeys", "book", "answer"], "ticked": ["plan", "journeys", "book"],
        "reason_holds": ["plan", "journeys", "book", "order", "thing"],
    },
    "clearline.log": {
        "is_log": ["plan", "journeys", "thing"], "come_up": ["plan", "journeys", "log"],
        "rows_of": ["deeds"], "letters_of": ["deeds"],
    },
    "clearline.worlds": {"judge_run": ["plan", "journeys", "lies", "deeds"]},
    "clearline.calm": {
        "calm_round": ["world"], "calm_run": ["world"], "most_rounds": ["world"], "report": ["world"],
    },
    "clearline.days": {
        "can_be_gone": ["plan", "journeys", "thing"], "price": ["plan", "journeys", "wishes", "day"],
        "judge_days": ["plan", "journeys", "wishes"], "days_hold": ["plan", "journeys", "wishes", "thing"],
        "least_price": ["plan", "journeys", "wishes"],
    },
    "clearline.clashes": {"clash": ["plan", "one", "other"], "is_clash": ["plan", "one", "other", "thing"]},
}


METHODS = {
    "__init__": ["plan", "journeys", "lies"], "deeds": [], "do": ["deed"], "run": ["choices"], "standing": [],
    "field": [], "net": [], "log": [], "book": [], "accident": [], "home": [],
}


class InterfaceTest(unittest.TestCase):
    def test_the_class_world(self):
        self.assertEqual(World.__module__, "clearline.worlds")
        self.assertEqual(World.__bases__, (object,))
        for name, parameters in METHODS.items():
            with self.subTest(name):
                method = vars(World)[name]
                self.assertTrue(inspect.isfunction(method))
                self.assertEqual(list(inspect.signature(method).parameters)[1:], parameters)
                for parameter in inspect.signature(method).parameters.values():
                    self.assertIs(parameter.kind, parameter.POSITIONAL_OR_KEYWORD)
                    self.assertIs(parameter.default, parameter.empty)

    def test_functions_and_parameters(self):
        for module_name, functions in INTERFACE.items():
            module = importlib.import_module(module_name)
            for name, parameters in functions.items():
                with self.subTest(module_name, name=name):
                    function = getattr(module, name)
                    self.assertTrue(inspect.isfunction(function))
                    self.assertEqual(function.__module__, module_name)
                    signature = inspect.signature(function)
                    self.assertEqual(list(signature.parameters), parameters)
                    for parameter in signature.parameters.values():
                        self.assertIs(parameter.kind, parameter.POSITIONAL_OR_KEYWORD)
                        self.assertIs(parameter.default, parameter.empty)


if __name__ == "__main__":
    unittest.main()
