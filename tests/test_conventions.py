"""[0.2] Conventions, for all functions of clearline.routes, clearline.tracks and clearline.field."""

import copy
import inspect
import itertools
import unittest

from clearline import errors, field, routes, tracks
from tests.layouts import LINE, PLANS, UNCHECKED
from tests.samples import ANY_VALUES, EMPTY, FAULTY, FULL, LOOP, raises, spoiled

ROUTE = ("west", (("w", 0, 1), ("p", 0, 1), ("a", 0, 1)), "sa")
OTHER_ROUTE = ("sb", (("p", 2, 0), ("w", 1, 0)), "west")
LIES = (("p", "left"), ("q", "between"))
STANDING = ((("t", (("a", 0, 1),), False),), LIES, ("sa", "west"))
FIELD = (
    ((5, 3, False, True), (7, 7, True, False), (0, 0, False, False), (9, 4, False, True)),
    ((5, "right", "between"), (3, "left", "left")),
)
# The right arguments behind the plan, and what the function answers.
CALLS = {
    routes.routes: ({}, None),
    routes.is_route: ({"thing": ROUTE}, True),
    routes.overlap_of: ({"route": ROUTE}, ()),
    routes.berth_of: ({"route": ROUTE}, "a"),
    routes.needs: ({"route": ROUTE}, ("a", "p", "w")),
    routes.lies_of: ({"route": ROUTE}, (("p", "left"),)),
    routes.do_bar: ({"one": ROUTE, "other": OTHER_ROUTE}, True),
    tracks.is_standing: ({"thing": STANDING}, True),
    tracks.bare: ({"lies": LIES}, ((), LIES, ())),
    tracks.taken: ({"standing": STANDING}, ("a",)),
    tracks.is_safe: ({"standing": STANDING}, True),
    tracks.moves: ({"standing": STANDING, "names": ("u", "t")}, (("in", "u", "west"), ("on", "t"))),
    tracks.moved: (
        {"standing": STANDING, "move": ("in", "u", "west")},
        (STANDING[0] + (("u", (("w", 0, 1),), False),), LIES, ("sa",)),
    ),
    field.is_letter: ({"thing": ("open", "sa", 1)}, True),
    field.is_answer: ({"thing": ("seen", "a", 1, True)}, True),
    field.begun_field: ({"lies": LIES}, (((0, 0, False, False),) * 4, ((0, "left", "left"), (0, "left", "between")))),
    field.is_field: ({"thing": FIELD}, True),
    field.hears: (
        {"field": FIELD, "taken": ("a",), "letter": ("look", "a", 4)}, (FIELD, ("seen", "a", 4, False)),
    ),
    field.passes: (
        {"field": FIELD, "name": "east"}, (FIELD, ("signal", "east", 7, 7, True)),
    ),
    field.settles: ({"field": FIELD, "name": "p"}, (FIELD[0], ((5, "right", "right"), FIELD[1][1]))),
    field.shows_of: ({"field": FIELD}, ("sb", "west")),
    field.lies_now: ({"field": FIELD}, (("p", "between"), ("q", "left"))),
}
# The error of each parameter, and values that are wrong for it, as is None.
WRONG = {
    "route": (errors.BadRoute, [(), ROUTE[:2], ("sa",) + ROUTE[1:], [*ROUTE]]),
    "one": (errors.BadRoute, [("sa",) + ROUTE[1:]]),
    "other": (errors.BadRoute, [[], ("sb", ROUTE[1], "west")]),
    "lies": (errors.BadLies, [LIES[:1], LIES[::-1], [*LIES]]),
    "standing": (errors.BadStanding, [STANDING[:2], (STANDING[0] * 2,) + STANDING[1:], [*STANDING]]),
    "names": (errors.BadNames, [("t", "t"), ["t"]]),
    "move": (errors.BadMove, [("tail", "t"), ["on", "t"]]),
    "field": (errors.BadField, [FIELD[::-1], [*FIELD]]),
    "taken": (errors.BadTaken, [("b", "a"), ["a"]]),
    "letter": (errors.BadLetter, [("look", "sa", 4), ["look", "a", 4]]),
    "name": (errors.BadName, ["a", ["p"]]),
}
NO_PLANS = [*ANY_VALUES, LOOP[:3], [*LOOP], (LOOP,), "stretch a plain"]


def fitting(function):
    """The right arguments of a function, the plan ahead of the others."""
    return {"plan": LOOP, **CALLS[function][0]}


class CallsTest(unittest.TestCase):
    def test_all_functions_are_here(self):
        for module, many in ((routes, 7), (tracks, 6), (field, 9)):
            here = [function for function in CALLS if function.__module__ == module.__name__]
            self.assertEqual(len(here), many)

    def test_by_position_and_by_name(self):
        for function, (_, expected) in CALLS.items():
            arguments = fitting(function)
            with self.subTest(function.__name__):
                self.assertEqual(list(inspect.signature(function).parameters), list(arguments))
                for order in itertools.permutations(arguments.items()):
                    if expected is not None:
                        self.assertEqual(function(**dict(order)), expected)
                    self.assertEqual(function(**dict(order)), function(*arguments.values()))

    def test_asked_again_they_answer_the_same(self):
        for function, (_, expected) in CALLS.items():
            arguments = fitting(function)
            first = function(**arguments)
            with self.subTest(function.__name__):
                for plan in (*PLANS, *UNCHECKED, None):
                    try:
                        function(**{**arguments, "plan": plan})
                    except errors.LineError:
                        pass
                    self.assertEqual(function(**copy.deepcopy(arguments)), first)

    def test_answers_behind_another_plan(self):
        # The same names, but r stands where s stood: what was told of one plan is not told of the other.
        other = (LINE[0], LINE[1], LINE[2], (("r",) + LINE[3][0][1:], ("s",) + LINE[3][1][1:]))
        for _ in range(2):
            self.assertEqual([route[2] for route in routes.routes(LINE)][:2], ["s", "r"])
            self.assertEqual([route[2] for route in routes.routes(other)][:2], ["r", "s"])
            standing = ((("t", (("a", 0, 1),), False),), (), ("s",))
            self.assertEqual(tracks.moves(LINE, standing, ("t",)), (("on", "t"),))
            self.assertEqual(tracks.moves(other, standing, ("t",)), (("slip", "t"),))

    def test_what_they_are_passed_stays(self):
        for function in CALLS:
            arguments = fitting(function)
            before = copy.deepcopy(arguments)
            function(**arguments)
            self.assertEqual(arguments, before)
            for name in arguments:
                for value in ([[], {"a": [1]}], {"a": ["b"], "c": {}}, [("w", 0, 1)], ([["left"]], {})):
                    wrong = {**arguments, name: value}
                    kept = copy.deepcopy(wrong)
                    try:
                        function(**wrong)
                    except errors.LineError:
                        pass
                    self.assertEqual(wrong, kept)

    def test_whether_is_told_by_bools(self):
        for function, (_, expected) in CALLS.items():
            arguments = fitting(function)
            if "thing" in arguments:
                self.assertIs(function(**arguments), True)
                for thing in [*ANY_VALUES, LOOP]:
                    self.assertIs(function(**{**arguments, "thing": thing}), False)


class ErrorsTest(unittest.TestCase):
    def test_bad_plan_comes_first(self):
        for function in CALLS:
            arguments = fitting(function)
            for plan in NO_PLANS:
                with self.subTest(function.__name__, plan=plan):
                    raises(self, function, {**arguments, "plan": plan}, errors.BadPlan, plan)
                    wrong = {name: None for name in arguments}
                    raises(self, function, {**wrong, "plan": plan}, errors.BadPlan, plan)

    def test_spoiled_plans(self):
        plans = list(spoiled(FULL))
        for at, function in enumerate(CALLS):
            for plan in plans[at::len(CALLS)]:
                raises(self, function, {**fitting(function), "plan": plan}, errors.BadPlan, plan)

    def test_bad_checked_comes_second(self):
        for function in CALLS:
            arguments = fitting(function)
            for plan in (FAULTY, *UNCHECKED):
                with self.subTest(function.__name__, plan=plan):
                    raises(self, function, {**arguments, "plan": plan}, errors.BadChecked, plan)
                    wrong = {name: None for name in arguments}
                    raises(self, function, {**wrong, "plan": plan}, errors.BadChecked, plan)

    def test_then_their_own_errors_in_their_order(self):
        for function in CALLS:
            arguments = fitting(function)
            names = [name for name in arguments if name in WRONG]
            for choice in itertools.product(*[[None, *WRONG[name][1]] for name in names]):
                spoilt = self.spoilt(names, choice)
                if spoilt:
                    first = next(iter(spoilt))
                    with self.subTest(function.__name__, spoilt=spoilt):
                        raises(self, function, {**arguments, **spoilt}, WRONG[first][0], spoilt[first])

    def spoilt(self, names, choice):
        """The wrong arguments of a choice, in the order of the parameters; None chooses the right one."""
        return {name: value for name, value in zip(names, choice) if value is not None}

    def test_none_is_wrong_for_each_parameter(self):
        for function in CALLS:
            arguments = fitting(function)
            names = [name for name in arguments if name in WRONG]
            for many in range(1, len(names) + 1):
                for spoilt in itertools.combinations(names, many):
                    wrong = {**arguments, **{name: None for name in spoilt}}
                    raises(self, function, wrong, WRONG[spoilt[0]][0], None)

    def test_the_empty_plan(self):
        self.assertEqual(routes.routes(EMPTY), ())
        self.assertEqual(tracks.moves(EMPTY, tracks.bare(EMPTY, ()), ("t",)), ())
        self.assertEqual(field.begun_field(EMPTY, ()), ((), ()))
        raises(self, routes.needs, {"plan": EMPTY, "route": ROUTE}, errors.BadRoute, ROUTE)
        raises(self, field.passes, {"plan": EMPTY, "field": ((), ()), "name": "west"}, errors.BadName, "west")


if __name__ == "__main__":
    unittest.main()
