"""[0.2] Conventions, for all functions that take a plan, from routes on, and for those of the log that take none."""

import copy
import inspect
import itertools
import unittest

from clearline import box, clashes, days, errors, field, journeys, log, routes, tracks, worlds
from tests.layouts import LINE, PLANS, UNCHECKED
from tests.samples import ANY_VALUES, EMPTY, FAULTY, FULL, LOOP, raises, same_calls, spoiled
from tests.trains import BOTH, LEFT, SAMPLES

ROUTE = ("west", (("w", 0, 1), ("p", 0, 1), ("a", 0, 1)), "sa")
OTHER_ROUTE = ("sb", (("p", 2, 0), ("w", 1, 0)), "west")
LIES = (("p", "left"), ("q", "between"))
STANDING = ((("t", (("a", 0, 1),), False),), LIES, ("sa", "west"))
FIELD = (
    ((5, 3, False, True), (7, 7, True, False), (0, 0, False, False), (9, 4, False, True)),
    ((5, "right", "between"), (3, "left", "left")),
)
# The train one stands at sa; the points of the route of two are being thrown.
BOOK = (3, (1, 1), (0, 0, 1, 2, 2, 2), ((), ("points", (3,), (False,))))
UNDONE = (3, (1, 0), (0, 0, 1, 0, 0, 0), ((), ()))
OPENED = (4, (1, 1), (0, 0, 1, 2, 2, 2), ((), ("open", 4)))
THROW = ("send", ("throw", "q", 3, "right"))
LOG = (("go", "one"), ("open", "one"), ("sweep", "one"))
COME_UP = (3, (1, 0), (1, 1, 1, 0, 0, 0), (("sweep", 0, 3), ()))
DAY = ("two", "two", "one", "one")
WISHES = (("two", 1, "one", 1),)
PAPER = ("least", DAY, tuple((count, 0) for count in itertools.product(range(3), repeat=2)))
HERE = {"journeys": BOTH, "count": (1, 1)}
BOOKED = {"journeys": BOTH, "book": BOOK}
# The right arguments behind the plan, and what the function answers; None where several answers are right.
CALLS = {
    routes.routes: ({}, None),
    routes.is_route: ({"thing": ROUTE}, True),
    routes.overlap_of: ({"route": ROUTE}, ()),
    routes.berth_of: ({"route": ROUTE}, "a"),
    routes.needs: ({"route": ROUTE}, ("a", "p", "w")),
    routes.lies_of: ({"route": ROUTE}, (("p", "left"),)),
    routes.do_bar: ({"one": ROUTE, "other": OTHER_ROUTE}, True),
    tracks.is_standing: ({"thing": STANDING}, True),
    tracks.bare: ({"lies": LIES}, ((), LIES, ())),
    tracks.taken: ({"standing": STANDING}, ("a",)),
    tracks.is_safe: ({"standing": STANDING}, True),
    tracks.moves: ({"standing": STANDING, "names": ("u", "t")}, (("in", "u", "west"), ("on", "t"))),
    tracks.moved: (
        {"standing": STANDING, "move": ("in", "u", "west")},
        (STANDING[0] + (("u", (("w", 0, 1),), False),), LIES, ("sa",)),
    ),
    field.is_letter: ({"thing": ("open", "sa", 1)}, True),
    field.is_answer: ({"thing": ("seen", "a", 1, True)}, True),
    field.begun_field: ({"lies": LIES}, (((0, 0, False, False),) * 4, ((0, "left", "left"), (0, "left", "between")))),
    field.is_field: ({"thing": FIELD}, True),
    field.hears: (
        {"field": FIELD, "taken": ("a",), "letter": ("look", "a", 4)}, (FIELD, ("seen", "a", 4, False)),
    ),
    field.passes: (
        {"field": FIELD, "name": "east"}, (FIELD, ("signal", "east", 7, 7, True)),
    ),
    field.settles: ({"field": FIELD, "name": "p"}, (FIELD[0], ((5, "right", "right"), FIELD[1][1]))),
    field.shows_of: ({"field": FIELD}, ("sb", "west")),
    field.lies_now: ({"field": FIELD}, (("p", "between"), ("q", "left"))),
    journeys.are_journeys: ({"thing": BOTH}, True),
    journeys.held: (HERE, (("a",), ("b",))),
    journeys.wanted: (HERE, (("e", "q"), ("p", "w"))),
    journeys.judge_count: (HERE, None),
    journeys.count_holds: ({**HERE, "thing": ("order", ("two", "one"))}, True),
    journeys.is_homely: (HERE, True),
    journeys.judge_going: ({**HERE, "train": "one"}, ("go", ("two",))),
    journeys.going_holds: ({**HERE, "train": "two", "thing": ("go", ("one",))}, True),
    journeys.going_trains: (HERE, ("one", "two")),
    box.is_book: ({"journeys": BOTH, "thing": BOOK}, True),
    box.begun_book: ({"journeys": BOTH}, (0, (0, 0), (0, 0, 0, 0, 0, 0), ((), ()))),
    box.room_of: ({**BOOKED, "train": "two"}, ("b", "e", "q")),
    box.ordered: ({**BOOKED, "order": ("undo", "two")}, (UNDONE, (("row", ("undone", "two")),))),
    box.told: (
        {**BOOKED, "answer": ("points", "q", 3, "right")},
        (OPENED, (("row", ("open", "two")), ("send", ("open", "east", 4)))),
    ),
    box.ticked: (BOOKED, (BOOK, (THROW,))),
    box.reason_holds: ({**BOOKED, "order": ("go", "two"), "thing": ("under way", "two")}, True),
    log.is_log: ({"journeys": BOTH, "thing": LOG}, True),
    log.come_up: ({"journeys": BOTH, "log": LOG}, COME_UP),
    worlds.judge_run: (
        {"journeys": BOTH, "lies": LIES, "deeds": (("order", ("go", "one")), ("bring", 0))},
        ("safe", ((), LIES, ())),
    ),
    days.can_be_gone: ({"journeys": BOTH, "thing": DAY}, True),
    days.price: ({"journeys": BOTH, "wishes": WISHES, "day": DAY[::-1]}, 1),
    days.judge_days: ({"journeys": BOTH, "wishes": WISHES}, None),
    days.days_hold: ({"journeys": BOTH, "wishes": WISHES, "thing": PAPER}, True),
    days.least_price: ({"journeys": BOTH, "wishes": WISHES}, 0),
    clashes.clash: ({"one": ROUTE, "other": OTHER_ROUTE}, None),
    clashes.is_clash: (
        {"one": ROUTE, "other": OTHER_ROUTE, "thing": (("in", "one", "west"), ("on", "other"), ("on", "one"))}, True,
    ),
}
# The error of each parameter, and values that are wrong for it, as is None.
WRONG = {
    "route": (errors.BadRoute, [(), ROUTE[:2], ("sa",) + ROUTE[1:], [*ROUTE]]),
    "one": (errors.BadRoute, [("sa",) + ROUTE[1:]]),
    "other": (errors.BadRoute, [[], ("sb", ROUTE[1], "west")]),
    "lies": (errors.BadLies, [LIES[:1], LIES[::-1], [*LIES]]),
    "standing": (errors.BadStanding, [STANDING[:2], (STANDING[0] * 2,) + STANDING[1:], [*STANDING]]),
    "names": (errors.BadNames, [("t", "t"), ["t"]]),
    "move": (errors.BadMove, [("tail", "t"), ["on", "t"]]),
    "field": (errors.BadField, [FIELD[::-1], [*FIELD]]),
    "taken": (errors.BadTaken, [("b", "a"), ["a"]]),
    "letter": (errors.BadLetter, [("look", "sa", 4), ["look", "a", 4]]),
    "name": (errors.BadName, ["a", ["p"]]),
    "journeys": (errors.BadJourneys, [BOTH[0], BOTH[:1] * 2, [*BOTH]]),
    "count": (errors.BadCount, [(1,), (3, 0), [1, 1]]),
    "train": (errors.BadTrain, ["three", ["one"]]),
    "book": (errors.BadBook, [BOOK[:3], (2,) + BOOK[1:], [*BOOK]]),
    "order": (errors.BadOrder, [("go", "three"), ["go", "one"]]),
    "answer": (errors.BadAnswer, [("points", "q", 3), ["points", "q", 3, "right"]]),
    "log": (errors.BadLog, [LOG[1:], [*LOG]]),
    "deeds": (errors.BadDeed, [[("tick",)], "tick"]),
    "wishes": (errors.BadWishes, [WISHES[0], (("one", 1, "one", 2),), [*WISHES]]),
    "day": (errors.BadDay, [DAY[1:], [*DAY]]),
}
NO_PLANS = [*ANY_VALUES, LOOP[:3], [*LOOP], (LOOP,), "stretch a plain"]


def fitting(function):
    """The right arguments of a function, the plan ahead of the others."""
    return {"plan": LOOP, **CALLS[function][0]}


class CallsTest(unittest.TestCase):
    def test_all_functions_are_here(self):
        many_in = {
            routes: 7, tracks: 6, field: 9, journeys: 9, box: 7, log: 2, worlds: 1, days: 5, clashes: 2,
        }
        for module, many in many_in.items():
            here = [function for function in CALLS if function.__module__ == module.__name__]
            self.assertEqual(len(here), many)

    def test_by_position_and_by_name(self):
        for function, (_, expected) in CALLS.items():
            arguments = fitting(function)
            with self.subTest(function.__name__):
                self.assertEqual(list(inspect.signature(function).parameters), list(arguments))
                for order in itertools.permutations(arguments.items()):
                    if expected is not None:
                        self.assertEqual(function(**dict(order)), expected)
                    self.assertEqual(function(**dict(order)), function(*arguments.values()))

    def test_asked_again_they_answer_the_same(self):
        for function, (_, expected) in CALLS.items():
            arguments = fitting(function)
            first = function(**arguments)
            with self.subTest(function.__name__):
                for plan in (*PLANS, *UNCHECKED, None):
                    try:
                        function(**{**arguments, "plan": plan})
                    except errors.LineError:
                        pass
                    self.assertEqual(function(**copy.deepcopy(arguments)), first)

    def test_asked_again_behind_other_journeys(self):
        for function in CALLS:
            arguments = fitting(function)
            if "journeys" not in arguments:
                continue
            first = function(**arguments)
            with self.subTest(function.__name__):
                for plan, others in (*SAMPLES, (LOOP, LEFT), (LOOP, BOTH[::-1]), (LOOP, [*BOTH])):
                    try:
                        function(**{**arguments, "plan": plan, "journeys": others})
                    except errors.LineError:
                        pass
                    self.assertEqual(function(**copy.deepcopy(arguments)), first)

    def test_answers_behind_other_journeys(self):
        # The same trains, in another order or on other routes: nothing is told of ones that were asked about before.
        for _ in range(2):
            self.assertEqual(journeys.held(LOOP, BOTH, (1, 0)), (("a",), ()))
            self.assertEqual(journeys.held(LOOP, BOTH[::-1], (1, 0)), (("b",), ()))
            self.assertEqual(journeys.wanted(LOOP, BOTH, (1, 1)), (("e", "q"), ("p", "w")))
            self.assertEqual(journeys.wanted(LOOP, LEFT, (1, 1)), (("e", "q"), ()))
            self.assertEqual(box.begun_book(LOOP, BOTH[:1]), (0, (0,), (0,) * 6, ((),)))
            self.assertEqual(log.come_up(LOOP, BOTH, (("go", "two"),))[1], (0, 1))
            self.assertEqual(log.come_up(LOOP, BOTH[::-1], (("go", "two"),))[1], (1, 0))
            self.assertEqual(days.least_price(LOOP, BOTH, (("one", 1, "two", 1), ("two", 1, "one", 1))), 1)
            self.assertEqual(days.least_price(LOOP, LEFT, (("one", 1, "two", 1), ("two", 1, "one", 2))), 1)

    def test_answers_behind_another_plan(self):
        # The same names, but r stands where s stood: what was told of one plan is not told of the other.
        other = (LINE[0], LINE[1], LINE[2], (("r",) + LINE[3][0][1:], ("s",) + LINE[3][1][1:]))
        for _ in range(2):
            self.assertEqual([route[2] for route in routes.routes(LINE)][:2], ["s", "r"])
            self.assertEqual([route[2] for route in routes.routes(other)][:2], ["r", "s"])
            standing = ((("t", (("a", 0, 1),), False),), (), ("s",))
            self.assertEqual(tracks.moves(LINE, standing, ("t",)), (("on", "t"),))
            self.assertEqual(tracks.moves(other, standing, ("t",)), (("slip", "t"),))

    def test_what_they_are_passed_stays(self):
        for function in CALLS:
            arguments = fitting(function)
            before = copy.deepcopy(arguments)
            function(**arguments)
            self.assertEqual(arguments, before)
            for name in arguments:
                for value in ([[], {"a": [1]}], {"a": ["b"], "c": {}}, [("w", 0, 1)], ([["left"]], {})):
                    wrong = {**arguments, name: value}
                    kept = copy.deepcopy(wrong)
                    try:
                        function(**wrong)
                    except errors.LineError:
                        pass
                    self.assertEqual(wrong, kept)

    def test_whether_is_told_by_bools(self):
        for function, (_, expected) in CALLS.items():
            arguments = fitting(function)
            if "thing" in arguments:
                self.assertIs(function(**arguments), True)
                # The empty tuple is journeys of no train, and the log at the beginning.
                expected = function in (journeys.are_journeys, log.is_log)
                for thing in [*ANY_VALUES, LOOP]:
                    self.assertIs(function(**{**arguments, "thing": thing}), expected and thing == ())


class DeedsTest(unittest.TestCase):
    ROW, LETTER = ("go", "one"), ("look", "a", 1)
    DEEDS = (("row", ROW), ("row", ("open", "one")), ("send", LETTER))

    def test_by_position_and_by_name(self):
        same_calls(self, log.rows_of, {"deeds": self.DEEDS}, (self.ROW, ("open", "one")))
        same_calls(self, log.letters_of, {"deeds": self.DEEDS}, (self.LETTER,))
        for function in (log.rows_of, log.letters_of):
            self.assertEqual(list(inspect.signature(function).parameters), ["deeds"])
            same_calls(self, function, {"deeds": ()}, ())

    def test_whatever_the_pairs_hold(self):
        for value in ANY_VALUES:
            same_calls(self, log.rows_of, {"deeds": (("send", self.LETTER), ("row", value))}, (value,))
            same_calls(self, log.letters_of, {"deeds": (("send", value), ("row", self.ROW))}, (value,))

    def test_bad_deeds_alone(self):
        refusal = box.ordered(LOOP, **BOOKED, order=("go", "two"))[1]
        self.assertEqual(refusal, (("refused", ("under way", "two")),))
        pair = ("row", self.ROW)
        wrong = [
            refusal, (pair,) + refusal, [pair], (list(pair),), pair, (pair + (1,),), (pair[:1],), ("row",), ("ro",),
            (("Row", self.ROW),), (("", self.ROW),), ((None, self.ROW),), ((["row"], self.ROW),), ((True, self.ROW),),
            ({"row": 1, "send": 2},), (pair, None), (pair, ()), {"row": 1}, BOOK, LOOP, LOG, self.ROW,
        ]
        for thing in wrong + [value for value in ANY_VALUES if value != ()]:
            before = copy.deepcopy(thing)
            raises(self, log.rows_of, {"deeds": thing}, errors.BadDeeds, thing)
            raises(self, log.letters_of, {"deeds": thing}, errors.BadDeeds, thing)
            self.assertEqual(thing, before)


class ErrorsTest(unittest.TestCase):
    def test_bad_plan_comes_first(self):
        for function in CALLS:
            arguments = fitting(function)
            for plan in NO_PLANS:
                with self.subTest(function.__name__, plan=plan):
                    raises(self, function, {**arguments, "plan": plan}, errors.BadPlan, plan)
                    wrong = {name: None for name in arguments}
                    raises(self, function, {**wrong, "plan": plan}, errors.BadPlan, plan)

    def test_spoiled_plans(self):
        plans = list(spoiled(FULL))
        for at, function in enumerate(CALLS):
            for plan in plans[at::len(CALLS)]:
                raises(self, function, {**fitting(function), "plan": plan}, errors.BadPlan, plan)

    def test_bad_checked_comes_second(self):
        for function in CALLS:
            arguments = fitting(function)
            for plan in (FAULTY, *UNCHECKED):
                with self.subTest(function.__name__, plan=plan):
                    raises(self, function, {**arguments, "plan": plan}, errors.BadChecked, plan)
                    wrong = {name: None for name in arguments}
                    raises(self, function, {**wrong, "plan": plan}, errors.BadChecked, plan)

    def test_then_their_own_errors_in_their_order(self):
        for function in CALLS:
            arguments = fitting(function)
            names = [name for name in arguments if name in WRONG]
            for choice in itertools.product(*[[None, *WRONG[name][1]] for name in names]):
                spoilt = self.spoilt(names, choice)
                if spoilt:
                    first = next(iter(spoilt))
                    with self.subTest(function.__name__, spoilt=spoilt):
                        raises(self, function, {**arguments, **spoilt}, WRONG[first][0], spoilt[first])

    def spoilt(self, names, choice):
        """The wrong arguments of a choice, in the order of the parameters; None chooses the right one."""
        return {name: value for name, value in zip(names, choice) if value is not None}

    def test_none_is_wrong_for_each_parameter(self):
        for function in CALLS:
            arguments = fitting(function)
            names = [name for name in arguments if name in WRONG]
            for many in range(1, len(names) + 1):
                for spoilt in itertools.combinations(names, many):
                    wrong = {**arguments, **{name: None for name in spoilt}}
                    raises(self, function, wrong, WRONG[spoilt[0]][0], None)

    def test_bad_pair_comes_last(self):
        arguments = fitting(clashes.is_clash)
        for route in (ROUTE, OTHER_ROUTE):
            pair = {"one": route, "other": route}
            for function, more in ((clashes.clash, {}), (clashes.is_clash, {"thing": ()})):
                with self.assertRaises(errors.BadPair) as caught:
                    function(LOOP, **pair, **more)
                self.assertIs(type(caught.exception), errors.BadPair)
                self.assertEqual(caught.exception.thing, (route, route))
        raises(self, clashes.is_clash, {**arguments, "one": (), "other": ()}, errors.BadRoute, ())

    def test_the_empty_plan(self):
        self.assertEqual(routes.routes(EMPTY), ())
        self.assertEqual(tracks.moves(EMPTY, tracks.bare(EMPTY, ()), ("t",)), ())
        self.assertEqual(field.begun_field(EMPTY, ()), ((), ()))
        self.assertEqual(box.begun_book(EMPTY, ()), (0, (), (), ()))
        self.assertEqual(box.ticked(EMPTY, (), (0, (), (), ())), ((0, (), (), ()), ()))
        raises(self, journeys.is_homely, {"plan": EMPTY, "journeys": BOTH, "count": ()}, errors.BadJourneys, BOTH)
        raises(self, routes.needs, {"plan": EMPTY, "route": ROUTE}, errors.BadRoute, ROUTE)
        raises(self, field.passes, {"plan": EMPTY, "field": ((), ()), "name": "west"}, errors.BadName, "west")


if __name__ == "__main__":
    unittest.main()
