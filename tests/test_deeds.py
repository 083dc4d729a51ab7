"""[9.4] Choices: deeds(), run; and judge_run."""

import random
import unittest
from unittest import mock

from clearline import tracks
from clearline.errors import BadChecked, BadChoices, BadDeed, BadJourneys, BadLies, BadPlan
from clearline.worlds import World, judge_run
from tests.drawn import done, draw, drive, random_lies, told
from tests.layouts import LINE
from tests.samples import ANY_VALUES, FAULTY, LOOP, raises, same_calls
from tests.trains import BOTH, FACING, SAMPLES, random_samples

LIES = (("p", "left"), ("q", "left"))
GO = ("order", ("go", "t"))
ORDERS = (GO, ("order", ("undo", "t")), ("order", ("go", "u")), ("order", ("undo", "u")))


def carried(many):
    """What can be done with so many items of the net."""
    return tuple((word, at) for word in ("bring", "double", "lose") for at in range(many))


def cuts(*deeds):
    """All cuts of these deeds."""
    return tuple(("cut", many, deed) for deed in deeds for many in (0, 1, 2, 3))


class ListTest(unittest.TestCase):
    def assert_list(self, world, *expected):
        for _ in range(2):
            self.assertEqual(world.deeds(), expected)

    def test_a_new_world(self):
        self.assert_list(World(LINE, FACING, ()), *ORDERS, ("tick",), ("fall",), *cuts(*ORDERS, ("tick",)))

    def test_behind_an_order(self):
        self.assert_list(
            done(LINE, FACING, (), GO), *ORDERS, ("tick",), ("fall",), *carried(1), *cuts(*ORDERS, ("tick",)))

    def test_letters_and_answers(self):
        # Of the items 0 to 3, the second one and the last one are letters.
        world = done(LINE, FACING, (), GO, ("double", 0), ("lose", 0), ("tick",), ("tick",), ("double", 1))
        self.assertEqual([item[0] for item in world.net()], ["signal", "open", "open", "signal"])
        world.do(("bring", 2))
        world.do(("tick",))
        self.assertEqual([item[0] for item in world.net()], ["signal", "open", "signal", "signal", "open"])
        self.assert_list(
            world, *ORDERS, ("tick",), ("fall",), *carried(5),
            *cuts(*ORDERS, ("tick",), ("bring", 0), ("bring", 2), ("bring", 3)), ("in", "t", "west"))

    def test_the_box_is_down(self):
        self.assert_list(done(LINE, FACING, (), ("fall",)), ("up",))
        self.assert_list(done(LINE, FACING, (), GO, ("bring", 0), ("fall",)), ("up",), *carried(1), ("in", "t", "west"))

    def test_only_the_first_twelve_items(self):
        for more in range(3):
            world = done(LINE, FACING, (), GO, *[("tick",)] * (10 + more))
            world.do(("bring", 0))
            world.do(("bring", 0))
            self.assertEqual(len(world.net()), 11 + more)
            few = min(12, 11 + more)
            answers = [("bring", at) for at in range(few) if world.net()[at][0] == "signal"]
            self.assertEqual(len(answers), (2, 2, 1)[more])
            self.assert_list(
                world, *ORDERS, ("tick",), ("fall",), *carried(few), *cuts(*ORDERS, ("tick",), *answers),
                ("in", "t", "west"))

    def test_points_that_lie_between(self):
        orders = tuple(("order", (word, train)) for train in ("one", "two") for word in ("go", "undo"))
        world = World(LOOP, BOTH, (("p", "between"), ("q", "between")))
        first = (*orders, ("tick",), ("fall",), *cuts(*orders, ("tick",)))
        self.assert_list(world, *first, ("settle", "p"), ("settle", "q"))
        world.do(("settle", "p"))
        self.assert_list(world, *first, ("settle", "q"))
        world.do(("fall",))
        self.assert_list(world, ("up",), ("settle", "q"))
        world.do(("settle", "q"))
        self.assert_list(world, ("up",))

    def test_moves(self):
        world = done(LINE, FACING, (), GO, ("bring", 0), ("lose", 0))
        first = (*ORDERS, ("tick",), ("fall",), *cuts(*ORDERS, ("tick",)))
        self.assert_list(world, *first, ("in", "t", "west"))
        world.do(("in", "t", "west"))
        world.do(("bring", 0))
        self.assert_list(world, *first, ("slip", "t"))
        world.do(("slip", "t"))
        self.assert_list(world, *first, ("back", "t"))
        world.do(("back", "t"))
        self.assert_list(world, *first, ("slip", "t"))
        for deed in (GO, ("bring", 0), ("lose", 0)):
            world.do(deed)
        self.assert_list(world, *first, ("on", "t"))
        world.do(("on", "t"))
        world.do(("lose", 0))
        self.assert_list(world, *first, ("tail", "t"))
        for move in ("tail", "on", "tail"):
            world.do((move, "t"))
        self.assert_list(world, *first, ("out", "t"))
        world.do(("out", "t"))
        self.assert_list(world, *first)

    def test_moves_of_several_trains_behind_the_points(self):
        # two's name comes behind one's, but two stands first in these journeys.
        world = World(LOOP, BOTH[::-1], (("p", "left"), ("q", "right")))
        for train in ("one", "two"):
            world.do(("order", ("go", train)))
        while world.standing()[2] != ("east", "west"):
            world.do(("bring", 0))
        self.assertEqual(world.deeds()[-2:], (("in", "two", "east"), ("in", "one", "west")))
        world.do(("in", "one", "west"))
        self.assertEqual(world.deeds()[-2:], (("in", "two", "east"), ("on", "one")))
        world.do(("in", "two", "east"))
        self.assertEqual(world.deeds()[-2:], (("on", "two"), ("on", "one")))


class RunTest(unittest.TestCase):
    def test_modulo_the_length_of_the_list(self):
        chance = random.Random(111)
        for plan, journeys in [*SAMPLES, *random_samples(15, 112)]:
            lies = random_lies(chance, plan)
            one, other = World(plan, journeys, lies), World(plan, journeys, lies)
            for _ in range(40):
                deeds = one.deeds()
                deed = draw(chance, deeds)
                at = deeds.index(deed) + chance.choice((0, 0, -1, 1, 7, -(10 ** 30), 10 ** 38)) * len(deeds)
                self.assertEqual(one.run((at,)), (deed,))
                other.do(deed)
                self.assertEqual(told(one), told(other))

    def test_several_choices(self):
        chance = random.Random(113)
        for plan, journeys in SAMPLES:
            lies = random_lies(chance, plan)
            for many in (0, 1, 10, 63):
                choices = tuple(chance.randint(-(10 ** 6), 10 ** 6) for _ in range(many))
                one, other, third = (World(plan, journeys, lies) for _ in range(3))
                deeds = one.run(choices)
                self.assertEqual(len(deeds), many)
                self.assertEqual(other.run(choices=choices), deeds)
                for deed in deeds:
                    third.do(deed)
                self.assertEqual(told(one), told(other))
                self.assertEqual(told(one), told(third))

    def test_each_choice_takes_the_list_of_its_moment(self):
        world = World(LINE, FACING, ())
        # At position 5 stands the fall; behind it there is but one deed, whatever is chosen.
        self.assertEqual(world.run((5, 12345, 5, -1, 0)), (("fall",), ("up",), ("fall",), ("up",), GO))

    def test_none(self):
        world = World(LINE, FACING, ())
        before = told(world)
        self.assertEqual(world.run(()), ())
        self.assertEqual(told(world), before)

    def test_bad_choices(self):
        world = done(LINE, FACING, (), GO)
        before = told(world)
        things = [
            0, 1, (True,), (0, False), (0, None), (0, "1"), [0], [], (0, [1]), (0, (1,)), {}, {0: 1}, "0", "", None,
            ((),), (0, 1, 2, "a"), world, world.deeds(),
        ]
        for thing in things + [value for value in ANY_VALUES if value != ()]:
            raises(self, world.run, {"choices": thing}, BadChoices, thing)
            self.assertEqual(told(world), before)


class JudgeRunTest(unittest.TestCase):
    def test_safe(self):
        chance = random.Random(114)
        for plan, journeys in SAMPLES:
            lies = random_lies(chance, plan)
            world = World(plan, journeys, lies)
            deeds = tuple(drive(chance, world, 60))
            arguments = {"plan": plan, "journeys": journeys, "lies": lies, "deeds": deeds}
            same_calls(self, judge_run, arguments, ("safe", world.standing()))
        same_calls(
            self, judge_run, {"plan": LOOP, "journeys": BOTH, "lies": LIES, "deeds": ()}, ("safe", ((), LIES, ())))

    def accident_at(self, move):
        """A move that ends in an accident in a world that has no other rules."""
        real = tracks.after_move

        def after_move(layout, standing, other):
            return ("derailed", "p") if other == move else real(layout, standing, other)

        return mock.patch("clearline.worlds.after_move", after_move)

    def test_an_accident_at_its_position(self):
        deeds = (GO, ("tick",), ("bring", 0), ("in", "t", "west"), ("slip", "t"))
        for many, move in ((4, ("in", "t", "west")), (5, ("slip", "t"))):
            with self.accident_at(move):
                found = judge_run(LINE, FACING, (), deeds[:many])
                self.assertEqual(found, ("accident", many - 1, ("derailed", "p")))
                # After it, no deed can be done.
                for deed in (("tick",), ("slip", "t"), ("lose", 0)):
                    self.assert_bad_deed((*deeds[:many], deed, None), deed)
        self.assertEqual(judge_run(LINE, FACING, (), deeds)[0], "safe")

    def assert_bad_deed(self, deeds, thing):
        with self.assertRaises(BadDeed) as caught:
            judge_run(LINE, FACING, (), deeds)
        self.assertIs(type(caught.exception), BadDeed)
        self.assertIs(caught.exception.thing, thing)

    def test_no_tuple(self):
        for value in [[GO], {GO: 1}, "tick", *ANY_VALUES]:
            if not isinstance(value, tuple):
                self.assert_bad_deed(value, value)

    def test_the_first_deed_that_could_not_be_done(self):
        wrong = [("up",), ("bring", 5), ("in", "t", "west"), ("on", "t"), ["tick"], None, ("bring", False), (), "tick", 0]
        for deed in wrong:
            self.assert_bad_deed((GO, deed), deed)
            self.assert_bad_deed((deed, GO, ("on", "u"), None), deed)
            self.assert_bad_deed((GO, ("bring", 0), ("tick",), deed if deed != ("in", "t", "west") else None, ("up",)),
                                 deed if deed != ("in", "t", "west") else None)

    def test_errors_in_their_order(self):
        right = {"plan": LINE, "journeys": FACING, "lies": (), "deeds": (GO,)}
        wrong = {"journeys": (BadJourneys, FACING[0]), "lies": (BadLies, LIES), "deeds": (BadDeed, [GO])}
        for first in range(3):
            for many in range(1, 4 - first):
                names = list(wrong)[first:first + many]
                arguments = {**right, **{name: wrong[name][1] for name in names}}
                raises(self, judge_run, arguments, *wrong[names[0]])
                raises(self, judge_run, {**arguments, "plan": FAULTY}, BadChecked, FAULTY)
                raises(self, judge_run, {**arguments, "plan": None}, BadPlan, None)


if __name__ == "__main__":
    unittest.main()
