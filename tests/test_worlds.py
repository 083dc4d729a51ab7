"""[9.1], [9.2] Worlds and deeds: the class World, and what each deed does."""

import itertools
import random
import unittest

from clearline.box import begun_book, ordered
from clearline.errors import BadChecked, BadDeed, BadJourneys, BadLies, BadPlan
from clearline.field import begun_field
from clearline.worlds import World
from tests.drawn import done, draw, random_lies, told
from tests.layouts import LINE, UNCHECKED
from tests.samples import ANY_VALUES, EMPTY, FAULTY, LOOP, raises, wrong_kinds, wrong_lengths
from tests.trains import BOTH, FACING, LEFT, SAMPLES, path, random_samples
from tests.world_oracle import OtherWorld

LIES = (("p", "left"), ("q", "left"))
LINED = FACING + (("v", path(LINE, "west", "s", "east")), ("w", path(LINE, "east", "r", "west")))
GO, UNDO = ("order", ("go", "t")), ("order", ("undo", "t"))


class WorldsTest(unittest.TestCase):
    def assert_bad(self, world, *deeds):
        """That none of these values can be done, and nothing changes."""
        before = told(world)
        for deed in deeds:
            kept = repr(deed)
            with self.subTest(deed=deed):
                raises(self, world.do, {"deed": deed}, BadDeed, deed)
                self.assertEqual(told(world), before)
                self.assertEqual(repr(deed), kept)

    def assert_does(self, world, deed, **changes):
        """That a deed can be done, and changes just this; what is not named stays as it was."""
        self.assertIn(deed, world.deeds())
        before = {name: getattr(world, name)() for name in ("standing", "field", "net", "log", "book", "home")}
        self.assertIsNone(world.do(deed))
        for name, old in before.items():
            self.assertEqual(getattr(world, name)(), changes.get(name, old), (deed, name))
        self.assertIsNone(world.accident())


class NewWorldTest(WorldsTest):
    def test_all_that_it_tells(self):
        chance = random.Random(101)
        for plan, journeys in SAMPLES:
            lies = random_lies(chance, plan)
            for world in (World(plan, journeys, lies), World(lies=lies, journeys=journeys, plan=plan)):
                self.assertEqual(world.plan, plan)
                self.assertEqual(world.journeys, journeys)
                self.assertEqual(world.standing(), ((), lies, ()))
                self.assertEqual(world.field(), begun_field(plan, lies))
                self.assertEqual(world.net(), ())
                self.assertEqual(world.log(), ())
                self.assertEqual(world.book(), begun_book(plan, journeys))
                self.assertIsNone(world.accident())
                self.assertEqual(world.home(), ())
                self.assertEqual(told(world), told(world))

    def test_points_that_lie_between(self):
        world = World(LOOP, BOTH, (("p", "between"), ("q", "right")))
        self.assertEqual(world.standing(), ((), (("p", "between"), ("q", "right")), ()))
        self.assertEqual(world.field()[1], ((0, "left", "between"), (0, "right", "right")))
        self.assertIn(("settle", "p"), world.deeds())
        self.assertNotIn(("settle", "q"), world.deeds())
        world.do(("settle", "p"))
        self.assertEqual(world.standing()[1], (("p", "left"), ("q", "right")))

    def test_journeys_of_no_train(self):
        for plan, lies in ((LOOP, LIES), (EMPTY, ())):
            world = World(plan, (), lies)
            self.assertEqual(world.home(), ())
            cuts = tuple(("cut", many, ("tick",)) for many in range(4))
            self.assertEqual(world.deeds(), (("tick",), ("fall",)) + cuts)
            self.assert_does(world, ("tick",))
            self.assert_does(world, ("cut", 3, ("tick",)), book=None)
            self.assertEqual(world.deeds(), (("up",),))

    def test_errors_in_their_order(self):
        right = {"plan": LOOP, "journeys": BOTH, "lies": LIES}
        wrong = {
            "plan": [(BadPlan, None), (BadPlan, LOOP[:3]), (BadPlan, [*LOOP]), (BadChecked, FAULTY)],
            "journeys": [(BadJourneys, None), (BadJourneys, BOTH[:1] * 2), (BadJourneys, [*BOTH])],
            "lies": [(BadLies, None), (BadLies, LIES[::-1]), (BadLies, LIES[:1]), (BadLies, [*LIES])],
        }
        wrong["plan"] += [(BadChecked, plan) for plan in UNCHECKED]
        for choice in itertools.product(*[[None, *wrong[name]] for name in right]):
            spoilt = {name: value for name, value in zip(right, choice) if value is not None}
            if spoilt:
                error, thing = next(iter(spoilt.values()))
                raises(self, World, {**right, **{name: value for name, (_, value) in spoilt.items()}}, error, thing)
        for value in ANY_VALUES:
            raises(self, World, {**right, "plan": value}, BadPlan, value)
            raises(self, World, {**right, "lies": value}, BadLies, value)
            if value != ():
                raises(self, World, {**right, "journeys": value}, BadJourneys, value)

    def test_a_world_is_equal_only_to_itself(self):
        one, other = World(LOOP, BOTH, LIES), World(LOOP, BOTH, LIES)
        self.assertTrue(one == one and not one != one)
        self.assertTrue(one != other and not one == other)
        for value in (*ANY_VALUES, LOOP, (one,)):
            self.assertTrue(one != value and value != one and not one == value)

    def test_worlds_have_nothing_in_common(self):
        one, other = World(LOOP, BOTH, LIES), World(LOOP, BOTH, LIES)
        before = told(other)
        one.do(("order", ("go", "one")))
        one.do(("bring", 0))
        one.do(("fall",))
        self.assertEqual(told(other), before)
        self.assertEqual(told(World(LOOP, BOTH, LIES)), before)


class BoxTest(WorldsTest):
    def test_orders(self):
        world = World(LINE, FACING, ())
        book = ordered(LINE, FACING, world.book(), GO[1])[0]
        self.assert_does(
            world, GO, book=book, log=(("go", "t"), ("open", "t")), net=(("open", "west", 1),))
        # A refused order does nothing.
        self.assert_does(world, GO)
        self.assert_does(world, ("order", ("go", "u")))
        self.assert_does(world, ("order", ("undo", "u")))
        self.assert_does(
            world, UNDO, book=(2, (1, 0), (1, 1, 0), (("stop", 2, 1), ())), log=world.log() + (("stop", "t"),),
            net=(("open", "west", 1), ("stop", "west", 2)))

    def test_ticks(self):
        world = World(LINE, FACING, ())
        self.assert_does(world, ("tick",))
        world.do(GO)
        self.assert_does(world, ("tick",), net=(("open", "west", 1),) * 2)
        # Rows can follow from a tick, too.
        world = done(LINE, FACING, (), ("cut", 1, GO), ("up",))
        self.assertEqual(world.log(), (("go", "t"),))
        self.assert_does(
            world, ("tick",), book=(1, (1, 0), (1, 1, 0), (("open", 1), ())), log=(("go", "t"), ("open", "t")),
            net=(("open", "west", 1),))

    def test_fall_and_up(self):
        world = done(LOOP, BOTH, LIES, ("order", ("go", "one")), ("bring", 0))
        self.assertEqual(world.net(), (("points", "p", 1, "left"),))
        self.assert_bad(world, ("up",))
        before = world.book()
        self.assert_does(world, ("fall",), book=None)
        orders = [("order", (word, train)) for word in ("go", "undo") for train in ("one", "two")]
        self.assert_bad(world, ("fall",), ("tick",), *orders)
        self.assert_bad(world, *[("cut", 0, deed) for deed in [*orders, ("tick",), ("bring", 0)]])
        self.assert_does(world, ("up",), book=before)
        self.assert_bad(world, ("up",))

    def test_what_is_done_of_points_is_lost(self):
        plan, journeys = LOOP, (("t", path(LOOP, "west", "east")),)
        world = done(plan, journeys, LIES, GO, ("bring", 0), ("settle", "p"), ("double", 0), ("tick",))
        while world.net()[0][0] != "throw":
            world.do(("lose", 0))
        while world.book()[3] == (("points", (1, 2), (False, False)),):
            world.do(("bring", 0))
        self.assertEqual(world.book()[3], (("points", (1, 2), (True, False)),))
        self.assert_does(world, ("fall",), book=None)
        self.assert_does(world, ("up",), book=(2, (1,), (1, 1, 0, 1, 1, 1), (("points", (1, 2), (False, False)),)))

    def test_coming_up_twice(self):
        world = done(LINE, FACING, (), GO, ("fall",), ("up",))
        before = told(world)
        self.assertEqual(told(done(LINE, FACING, (), GO, ("fall",), ("up",), ("fall",), ("up",))), before)


class NetTest(WorldsTest):
    def test_letters_to_signals(self):
        world = done(LINE, FACING, (), GO)
        signals = ((1, 1, False, True), (0, 0, False, False), (0, 0, False, False), (0, 0, False, False))
        self.assert_does(
            world, ("bring", 0), net=(("signal", "west", 1, 1, False),), field=(signals, ()),
            standing=((), (), ("west",)))

    def test_letters_to_points(self):
        world = done(LOOP, LEFT, (("p", "right"), ("q", "left")), ("order", ("go", "two")))
        self.assertEqual(world.net(), (("throw", "p", 1, "left"), ("throw", "q", 2, "left")))
        signals = world.field()[0]
        self.assert_does(
            world, ("bring", 1), net=(("throw", "p", 1, "left"), ("points", "q", 2, "left")),
            field=(signals, ((0, "right", "right"), (2, "left", "left"))))
        self.assert_does(
            world, ("bring", 0), net=(("points", "q", 2, "left"), ("points", "p", 1, "between")),
            field=(signals, ((1, "left", "between"), (2, "left", "left"))),
            standing=((), (("p", "between"), ("q", "left")), ()))

    def test_letters_to_detectors(self):
        world = self.swept_world()
        self.assertEqual(world.net(), (("look", "w", 3),))
        self.assert_does(world, ("double", 0), net=(("look", "w", 3), ("seen", "w", 3, False)))
        world.do(("on", "one"))
        self.assert_does(world, ("double", 0), net=world.net() + (("seen", "w", 3, False),))
        world.do(("tail", "one"))
        self.assert_does(world, ("double", 0), net=world.net() + (("seen", "w", 3, True),))

    def swept_world(self):
        """one has come in at west, and the box looks whether w is free."""
        world = done(LOOP, BOTH, LIES, ("order", ("go", "one")), ("bring", 0), ("bring", 0), ("bring", 0))
        self.assertEqual(world.net(), (("signal", "west", 2, 2, False),))
        world.do(("lose", 0))
        world.do(("in", "one", "west"))
        world.do(("bring", 0))
        return world

    def test_answers(self):
        world = done(LINE, FACING, (), GO, ("bring", 0), ("in", "t", "west"))
        answers = (("signal", "west", 1, 1, False), ("signal", "west", 1, 1, True))
        self.assertEqual(world.net(), answers)
        self.assert_does(world, ("bring", 0), net=answers[1:])
        self.assert_does(
            world, ("bring", 0), net=(), log=world.log() + (("sweep", "t"),), book=(1, (1, 0), (1, 1, 0), ((), ())))

    def test_what_follows_an_answer_is_appended(self):
        world = done(LOOP, BOTH, LIES, ("order", ("go", "one")), ("bring", 0), ("order", ("go", "two")))
        self.assertEqual(world.net(), (("points", "p", 1, "left"), ("throw", "q", 2, "right")))
        self.assert_does(
            world, ("bring", 0), net=(("throw", "q", 2, "right"), ("open", "west", 3)),
            log=(("go", "one"), ("go", "two"), ("open", "one")),
            book=(3, (1, 1), (1, 1, 1, 2, 2, 2), (("open", 3), ("points", (2,), (False,)))))

    def test_answers_while_the_box_is_down(self):
        for word in ("bring", "double"):
            world = done(LINE, FACING, (), GO, ("bring", 0), ("in", "t", "west"), ("fall",))
            answers = world.net()
            self.assert_does(world, (word, 1), net=answers[:1] if word == "bring" else answers)
            # Letters are heard as ever.
            world = done(LINE, FACING, (), GO, ("fall",))
            self.assert_does(
                world, (word, 0), net=world.net()[word == "bring":] + (("signal", "west", 1, 1, False),),
                field=(((1, 1, False, True),) + world.field()[0][1:], ()), standing=((), (), ("west",)))

    def test_doubled_answers(self):
        world = done(LINE, FACING, (), GO, ("bring", 0), ("in", "t", "west"))
        answers = world.net()
        self.assert_does(
            world, ("double", 1), log=world.log() + (("sweep", "t"),), book=(1, (1, 0), (1, 1, 0), ((), ())))
        self.assert_does(world, ("double", 1))
        self.assert_does(world, ("bring", 1), net=answers[:1])

    def test_lost_items(self):
        world = done(LINE, FACING, (), GO, ("tick",), ("bring", 0))
        self.assertEqual(world.net(), (("open", "west", 1), ("signal", "west", 1, 1, False)))
        self.assert_does(world, ("lose", 0), net=(("signal", "west", 1, 1, False),))
        self.assert_does(world, ("lose", 0), net=())

    def test_items_that_are_not_there(self):
        world = World(LINE, FACING, ())
        for many in range(3):
            for word in ("bring", "double", "lose"):
                self.assert_bad(world, (word, -1), (word, many), (word, many + 1), (word, 12), (word, 10 ** 39))
            self.assert_bad(world, ("cut", 1, ("bring", many)), ("cut", 1, ("bring", -1)))
            world.do(GO if many == 0 else ("tick",))

    def test_only_the_first_twelve_items(self):
        world = done(LINE, FACING, (), GO, *[("tick",)] * 14)
        self.assertEqual(len(world.net()), 15)
        for word in ("bring", "double", "lose"):
            self.assert_bad(world, (word, 12), (word, 13), (word, 14), (word, 15))
            self.assertIn((word, 11), world.deeds())
        self.assert_does(world, ("lose", 11), net=world.net()[1:])


class CutTest(WorldsTest):
    def test_an_order(self):
        # Two rows and a letter follow from it.
        rows, letters = (("go", "t"), ("open", "t")), (("open", "west", 1),)
        for many, log, net in ((0, (), ()), (1, rows[:1], ()), (2, rows, ()), (3, rows, letters)):
            world = World(LINE, FACING, ())
            self.assert_does(world, ("cut", many, GO), book=None, log=log, net=net)
        # A row and two letters.
        throws = (("throw", "p", 1, "left"), ("throw", "q", 2, "left"))
        for many, log, net in ((0, (), ()), (1, (("go", "two"),), ()), (2, (("go", "two"),), throws[:1]),
                               (3, (("go", "two"),), throws)):
            world = World(LOOP, LEFT, LIES)
            self.assert_does(world, ("cut", many, ("order", ("go", "two"))), book=None, log=log, net=net)

    def test_a_refused_order(self):
        for many in range(4):
            world = done(LINE, FACING, (), GO)
            self.assert_does(world, ("cut", many, ("order", ("go", "u"))), book=None)
            world = World(LINE, FACING, ())
            self.assert_does(world, ("cut", many, UNDO), book=None)

    def test_a_tick(self):
        # Of four letters that follow, or of a row and a letter.
        first = (("order", ("go", "one")), ("order", ("go", "two")), ("lose", 0), ("lose", 0))
        letters = (("throw", "p", 1, "left"), ("throw", "q", 2, "right"))
        for many in range(4):
            world = done(LOOP, BOTH, LIES, *first)
            self.assert_does(world, ("cut", many, ("tick",)), book=None, net=letters[:many])
            world = done(LINE, FACING, (), ("cut", 1, GO), ("up",))
            self.assert_does(
                world, ("cut", many, ("tick",)), book=None, log=(("go", "t"), ("open", "t"))[:1 + many],
                net=(("open", "west", 1),)[:max(0, many - 1)])

    def test_the_bringing_of_an_answer(self):
        for many in range(4):
            world = done(LOOP, BOTH, LIES, ("order", ("go", "one")), ("bring", 0))
            self.assert_does(
                world, ("cut", many, ("bring", 0)), book=None, log=(("go", "one"), ("open", "one"))[:1 + many],
                net=(("open", "west", 2),)[:max(0, many - 1)])
            # One from which nothing follows.
            world = done(LINE, FACING, (), GO, ("bring", 0))
            self.assert_does(world, ("cut", many, ("bring", 0)), book=None, net=())

    def test_the_item_is_the_one_that_is_named(self):
        world = done(LINE, FACING, (), GO, ("tick",), ("bring", 0), ("in", "t", "west"))
        items = world.net()
        self.assertEqual([item[0] for item in items], ["open", "signal", "signal"])
        self.assert_does(
            world, ("cut", 3, ("bring", 2)), book=None, net=items[:2], log=world.log() + (("sweep", "t"),))

    def test_what_cannot_be_cut(self):
        world = done(LINE, FACING, (), GO, ("tick",), ("bring", 0), ("in", "t", "west"))
        for many in range(4):
            self.assert_bad(
                world, ("cut", many, ("fall",)), ("cut", many, ("up",)), ("cut", many, ("lose", 1)),
                ("cut", many, ("double", 1)), ("cut", many, ("bring", 0)), ("cut", many, ("bring", 3)),
                ("cut", many, ("tail", "t")), ("cut", many, ("slip", "t")), ("cut", many, ("cut", 0, ("tick",))),
                ("cut", many, GO[1]), ("cut", many, ("order", ("go", "x"))))
        self.assert_bad(world, ("cut", -1, ("tick",)), ("cut", 4, ("tick",)), ("cut", 10 ** 39, GO), ("cut", 1))

    def test_what_is_left_is_a_log(self):
        world = done(LINE, FACING, (), ("cut", 1, GO))
        self.assert_does(world, ("up",), book=(0, (1, 0), (1, 1, 0), (("points", (), ()), ())))
        world = done(LINE, FACING, (), ("cut", 0, GO))
        self.assert_does(world, ("up",), book=(0, (0, 0), (0, 0, 0), ((), ())))


class MovesTest(WorldsTest):
    def test_passing_a_gate(self):
        world = done(LINE, FACING, (), GO)
        self.assert_bad(world, ("in", "t", "west"))
        world.do(("bring", 0))
        others = world.field()[0][1:]
        self.assert_does(
            world, ("in", "t", "west"), standing=((("t", (("a", 0, 1),), False),), (), ()),
            field=(((1, 1, True, False),) + others, ()), net=world.net() + (("signal", "west", 1, 1, True),))
        self.assert_bad(world, ("in", "t", "west"), ("on", "t"), ("tail", "t"), ("out", "t"), ("back", "t"))

    def test_passing_a_signal_and_going_on(self):
        world = done(LINE, FACING, (), GO, ("bring", 0), ("in", "t", "west"), ("bring", 1), ("lose", 0), GO, ("bring", 0))
        self.assertEqual(world.net(), (("signal", "s", 2, 2, False),))
        head, behind = ("o", 0, 1), ("a", 0, 1)
        signals = world.field()[0]
        self.assert_bad(world, ("slip", "t"))
        self.assert_does(
            world, ("on", "t"), standing=((("t", (head, behind), False),), (), ()),
            field=(signals[:2] + ((2, 2, True, False),) + signals[3:], ()),
            net=world.net() + (("signal", "s", 2, 2, True),))
        self.assert_bad(world, ("on", "t"), ("out", "t"), ("back", "t"), ("slip", "t"))
        self.assert_does(world, ("tail", "t"), standing=((("t", (head,), False),), (), ()))
        # No signal stands at the end of o for this direction, and none answers.
        self.assert_does(world, ("on", "t"), standing=((("t", (("b", 0, 1), head), False),), (), ()))
        self.assert_does(world, ("tail", "t"), standing=((("t", (("b", 0, 1),), False),), (), ()))
        self.assert_does(world, ("out", "t"), standing=((), (), ()), home=("t",))
        self.assert_bad(world, ("in", "t", "west"), ("out", "t"), ("in", "t", "east"))

    def test_slip_and_back(self):
        world = done(LINE, FACING, (), GO, ("bring", 0), ("in", "t", "west"))
        self.assert_does(world, ("slip", "t"), standing=((("t", (("o", 0, 1), ("a", 0, 1)), True),), (), ()))
        self.assert_bad(world, ("slip", "t"), ("tail", "t"), ("on", "t"))
        self.assert_does(world, ("back", "t"), standing=((("t", (("a", 0, 1),), False),), (), ()))
        self.assert_bad(world, ("back", "t"))

    def test_settling(self):
        world = done(LOOP, BOTH, (("p", "right"), ("q", "between")), ("order", ("go", "one")))
        self.assert_bad(world, ("settle", "p"), ("settle", "w"), ("settle", "west"), ("settle", "one"))
        world.do(("bring", 0))
        signals = world.field()[0]
        self.assert_does(
            world, ("settle", "p"), field=(signals, ((1, "left", "left"), (0, "left", "between"))),
            standing=((), (("p", "left"), ("q", "between")), ()))
        self.assert_bad(world, ("settle", "p"))
        self.assert_does(
            world, ("settle", "q"), field=(signals, ((1, "left", "left"), (0, "left", "left"))),
            standing=((), (("p", "left"), ("q", "left")), ()))

    def test_only_the_first_one_in_its_line_comes_in(self):
        world = done(LINE, LINED, (), GO, ("bring", 0))
        self.assertEqual(world.standing()[2], ("west",))
        # v waits behind t; u and w at the other gate; x is nobody.
        self.assert_bad(world, *[("in", train, gate) for train in "tuvwx" for gate in ("west", "east")
                                 if (train, gate) != ("t", "west")])
        world.do(("in", "t", "west"))
        self.assert_bad(world, *[("in", train, gate) for train in "tuvwx" for gate in ("west", "east")])
        # When t is home, v is the first one.
        world.do(("bring", 1))
        for deed in (("lose", 0), GO, ("bring", 0), ("on", "t"), ("tail", "t"), ("on", "t"), ("tail", "t"), ("out", "t")):
            world.do(deed)
        while world.net():
            world.do(("bring", 0))
        self.assertEqual(world.book()[1:], ((2, 0, 0, 0), (0, 0, 0), ((), (), (), ())))
        world.do(("order", ("go", "v")))
        world.do(("bring", 0))
        self.assertEqual([deed for deed in world.deeds() if deed[0] == "in"], [("in", "v", "west")])
        self.assert_bad(world, ("in", "t", "west"))

    def test_the_journeys_begin_elsewhere(self):
        # u is the first one of the journeys, but t is the first one at its gate.
        world = done(LINE, LINED[::-1], (), ("order", ("go", "v")), ("bring", 0))
        self.assertEqual([deed for deed in world.deeds() if deed[0] == "in"], [("in", "v", "west")])
        self.assert_bad(world, ("in", "t", "west"))

    def test_who_is_home_in_the_order_of_the_journeys(self):
        plan, journeys = LOOP, BOTH
        world = World(plan, journeys, LIES)
        for train in ("two", "one"):
            for _ in range(2):
                world.do(("order", ("go", train)))
                for _ in range(40):
                    while world.net():
                        world.do(("bring", 0))
                    able = [deed for deed in world.deeds() if deed[0] in ("settle", "in", "on", "tail", "out")]
                    world.do((able + [("tick",)])[0])
        self.assertEqual(world.home(), ("one", "two"))


class BadDeedsTest(WorldsTest):
    def test_any_values(self):
        world = done(LINE, FACING, (), GO, ("tick",), ("bring", 0), ("in", "t", "west"))
        self.assert_bad(world, *ANY_VALUES, LINE, FACING, world, world.book(), world.net(), world.log(), world.deeds())
        for deed in (
            ("order", ("go", "t")), ("tick",), ("fall",), ("bring", 0), ("bring", 1), ("double", 2), ("lose", 1),
            ("cut", 0, ("bring", 1)), ("cut", 1, ("bring", 1)), ("cut", 2, ("order", ("undo", "u"))), ("slip", "t"),
        ):
            self.assertIn(deed, world.deeds())
            self.assert_bad(world, *wrong_kinds(deed), *wrong_lengths(deed, lambda place: False), [*deed])

    def test_bools_and_lists(self):
        world = done(LINE, FACING, (), GO, ("tick",), ("bring", 0))
        self.assert_bad(
            world, ("bring", False), ("bring", True), ("double", False), ("lose", True), ("cut", False, ("tick",)),
            ("cut", True, GO), ("cut", 0, ("bring", True)), ("cut", True, ("bring", 1)), ["tick"], [], ("order", ["go", "t"]),
            ["order", ("go", "t")], ("cut", 0, ["tick"]), ("bring", [0]), ("bring", (0,)), ("bring",), ("tick", ()))

    def test_other_words_and_names(self):
        world = done(LINE, FACING, (), GO, ("tick",), ("bring", 0))
        self.assert_bad(
            world, ("tock",), ("Tick",), ("go", "t"), ("undo", "t"), ("order", ("go", "x")), ("order", ("stop", "t")),
            ("order", "t"), ("in", "t"), ("in", "west", "t"), ("on", "u"), ("out", "x"), ("wait",), ("tick", "tick"),
            ("settle", "a"), ("raise",), ("look", "a", 1), ("row", ("go", "t")), ("send", ("open", "west", 1)),
            ("open", "west", 1), ("signal", "west", 1, 1, False))


class AccidentTest(WorldsTest):
    def wrong_world(self):
        """A world that cannot come to be: t stands on a, and west shows go for v."""
        world = done(LINE, LINED, (), GO, ("bring", 0), ("in", "t", "west"))
        signals, points = world.field()
        world._field = (((9, 9, False, True),) + signals[1:], points)
        return world

    def test_an_accident(self):
        world = self.wrong_world()
        before = told(world)
        self.assertEqual(world.do(("in", "v", "west")), ("meet", "a"))
        self.assertEqual(world.accident(), ("meet", "a"))
        self.assertEqual(world.deeds(), ())
        self.assertEqual(told(world)[:5], before[:5])
        self.assert_bad(world, ("tick",), ("fall",), ("bring", 0), ("in", "v", "west"), ("slip", "t"), GO)
        self.assertEqual(world.run((1, 2, 3)), ())

    def test_derailed(self):
        world = done(LOOP, BOTH, (("p", "right"), ("q", "left")), ("order", ("go", "one")))
        signals, points = world.field()
        world._field = (((9, 9, False, True),) + signals[1:], ((0, "right", "between"), points[1]))
        self.assertIsNone(world.do(("in", "one", "west")))
        self.assertEqual(world.do(("on", "one")), ("derailed", "p"))
        self.assertEqual(world.deeds(), ())

    def test_a_run_ends_with_it(self):
        world = self.wrong_world()
        at = world.deeds().index(("in", "v", "west"))
        other = self.wrong_world()
        tick = other.deeds().index(("tick",))
        self.assertEqual(world.run((at, 0, 0, 0)), (("in", "v", "west"),))
        done_then = other.run((tick, tick))
        self.assertEqual(done_then, (("tick",), ("tick",)))


class PlayedTest(unittest.TestCase):
    def test_drawn_deeds(self):
        chance = random.Random(103)
        words = []
        for plan, journeys in [*SAMPLES * 2, *random_samples(25, 104)]:
            lies = random_lies(chance, plan)
            world, other = World(plan, journeys, lies), OtherWorld(plan, journeys, lies)
            for _ in range(90):
                deeds = world.deeds()
                self.assertEqual(deeds, other.deeds())
                deed = draw(chance, deeds)
                words.append(deed[0])
                self.assertIsNone(world.do(deed=deed))
                other.do(deed)
                self.assertEqual(told(world)[:5] + (world.home(),), other.told()[:5] + (other.home(),))
        for word in ("order", "tick", "fall", "up", "bring", "double", "lose", "cut", "settle", "in", "on", "tail", "out",
                     "slip", "back"):
            self.assertGreater(words.count(word), 15, word)


if __name__ == "__main__":
    unittest.main()
