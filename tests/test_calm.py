"""[10.1], [10.2] Calm rounds, all come home; report."""

import random
import unittest
from unittest import mock

from clearline.calm import calm_round, calm_run, most_rounds, report
from clearline.errors import BadWorld
from clearline.log import come_up
from clearline.worlds import World
from tests.drawn import done, drive, random_lies, told
from tests.layouts import LINE
from tests.samples import ANY_VALUES, EMPTY, LOOP, raises
from tests.trains import BOTH, FACING, HALT, LEFT, PASSING, SAMPLES, path, random_samples
from tests.world_oracle import OtherWorld

LIES = (("p", "left"), ("q", "left"))
GO, UNDO = ("order", ("go", "t")), ("order", ("undo", "t"))
CALLS = (calm_round, calm_run, most_rounds, report)


def counted(world):
    """The routes that are not included by the count of the book after the log, plus the works."""
    _, count, _, works = come_up(world.plan, world.journeys, world.log())
    return sum(len(row) for _, row in world.journeys) - sum(count) + sum(1 for work in works if work)


def everyone(world):
    """All trains, in the journeys' order."""
    return tuple(name for name, _ in world.journeys)


class RoundsTest(unittest.TestCase):
    def test_a_round_from_the_beginning(self):
        world = World(LINE, FACING, ())
        self.assertEqual(calm_round(world), 0)
        # t stands on a; its passing was told at once, and the row of sweeping is empty. u was refused: a knot.
        self.assertEqual(world.standing(), ((("t", (("a", 0, 1),), False),), (), ()))
        self.assertEqual(world.log(), (("go", "t"), ("open", "t"), ("sweep", "t")))
        self.assertEqual(world.net(), ())
        self.assertEqual(world.book(), (1, (1, 0), (1, 1, 0), ((), ())))
        self.assertEqual(calm_round(world), 1)
        self.assertEqual(world.home(), ("t",))
        # All is swept at the end of the round.
        self.assertEqual(world.book()[1:], ((2, 0), (0, 0, 0), ((), ())))
        self.assertEqual([calm_round(world=world) for _ in range(3)], [1, 2, 2])

    def test_points_settle_and_are_told_in_one_round(self):
        world = World(LOOP, BOTH, (("p", "right"), ("q", "left")))
        self.assertEqual(calm_round(world), 0)
        self.assertEqual(world.standing()[1], (("p", "left"), ("q", "right")))
        self.assertEqual([train[:2] for train in world.standing()[0]],
                         [("one", (("a", 0, 1),)), ("two", (("b", 1, 0),))])
        self.assertEqual(world.book()[2:], ((0, 0, 1, 2, 0, 0), ((), ())))

    def test_all_points_that_lie_between_settle(self):
        world = World(LOOP, (), (("p", "between"), ("q", "between")))
        self.assertEqual(calm_round(world), 0)
        self.assertEqual(world.standing()[1], LIES)

    def test_the_box_comes_up(self):
        world = done(LINE, FACING, (), GO, ("fall",))
        self.assertEqual(calm_round(world), 0)
        self.assertEqual(world.book()[1], (1, 0))

    def test_a_slipped_train_comes_back_first(self):
        world = done(LINE, FACING, (), GO, ("bring", 0), ("in", "t", "west"), ("bring", 1), ("slip", "t"))
        self.assertEqual(calm_round(world), 1)
        self.assertEqual(world.home(), ("t",))

    def test_trains_that_are_home_are_not_ordered(self):
        orders = []
        world = World(LINE, FACING, ())
        real = world.do

        def do(deed):
            orders.extend([deed[1][1]] if deed[0] == "order" else [])
            return real(deed)

        with mock.patch.object(world, "do", do):
            for _ in range(4):
                calm_round(world)
        self.assertEqual(orders, ["t", "u", "t", "u", "u", "u"])

    def test_like_the_other_world(self):
        chance = random.Random(131)
        for plan, journeys in [*SAMPLES * 2, *random_samples(30, 132)]:
            lies = random_lies(chance, plan)
            world, other = World(plan, journeys, lies), OtherWorld(plan, journeys, lies)
            for deed in drive(chance, world, chance.randint(0, 80)):
                other.do(deed)
            for _ in range(3):
                self.assertEqual(calm_round(world), len(world.home()))
                other.calm_round()
                self.assertEqual(told(world)[:5] + (world.home(),), other.told()[:5] + (other.home(),))
                self.assertEqual(most_rounds(world), other.counted() + 1)


class HomeTest(unittest.TestCase):
    def assert_come_home(self, world):
        """All come home within the bound, each round but the first one making less of what is counted."""
        most, before = most_rounds(world), None
        self.assertEqual(most, counted(world) + 1)
        rounds = 0
        while len(world.home()) < len(world.journeys):
            number = calm_round(world)
            rounds += 1
            self.assertEqual(number, len(world.home()))
            if before is not None:
                self.assertLess(counted(world), before)
            before = counted(world)
            self.assertLessEqual(rounds, most)
        self.assertEqual(world.home(), everyone(world))
        self.assertEqual(world.standing()[0], ())
        self.assertEqual(calm_run(world), 0)
        return rounds

    def test_from_new_worlds(self):
        chance = random.Random(133)
        for plan, journeys in [*SAMPLES, *random_samples(40, 134)]:
            lies = random_lies(chance, plan)
            rounds = self.assert_come_home(World(plan, journeys, lies))
            world = World(plan, journeys, lies)
            self.assertEqual(most_rounds(world), sum(len(row) for _, row in journeys) + 1)
            self.assertEqual(calm_run(world=world), rounds)
            self.assertEqual(world.home(), everyone(world))

    def test_after_drawn_deeds(self):
        chance = random.Random(135)
        words = []
        for plan, journeys in [*SAMPLES * 3, *random_samples(40, 136)]:
            world = World(plan, journeys, random_lies(chance, plan))
            words += [deed[0] for deed in drive(chance, world, chance.randint(20, 150))]
            self.assert_come_home(world)
        for word in ("fall", "up", "cut", "lose", "double", "slip", "back", "settle", "order"):
            self.assertGreater(words.count(word), 20, word)

    def test_after_chosen_deeds(self):
        chance = random.Random(137)
        for plan, journeys in [*SAMPLES, *random_samples(20, 138)]:
            world = World(plan, journeys, random_lies(chance, plan))
            for _ in range(chance.randint(1, 3)):
                world.run(tuple(chance.randrange(10 ** 6) for _ in range(63)))
            most = most_rounds(world)
            self.assertLessEqual(calm_run(world), most)
            self.assertEqual(world.home(), everyone(world))

    def test_after_one_thing_that_went_wrong(self):
        journeys = (("t", path(LOOP, "west", "sa", "east")),)
        opened = (GO, ("bring", 0), ("bring", 0))
        cases = (
            (GO, ("lose", 0)), (GO, ("fall",)), (("cut", 0, GO),), (("cut", 1, GO),),
            (GO, ("bring", 0), ("lose", 0)), (GO, ("bring", 0), ("cut", 0, ("bring", 0))),
            (GO, ("bring", 0), ("cut", 1, ("bring", 0))), (*opened, ("lose", 0)), (*opened, UNDO),
            (*opened, UNDO, ("lose", 0)), (*opened, ("bring", 0), UNDO), (*opened, UNDO, ("fall",)),
            (*opened, ("bring", 0), ("in", "t", "west"), ("lose", 1)), (GO, UNDO), (GO, ("double", 0), UNDO),
            (*opened, ("bring", 0), ("in", "t", "west"), UNDO),
        )
        for deeds in cases:
            for lies in (LIES, (("p", "right"), ("q", "left")), (("p", "between"), ("q", "between"))):
                with self.subTest(deeds=deeds, lies=lies):
                    world = World(LOOP, journeys, lies)
                    for deed in deeds:
                        # With some lies, points have not settled yet, and the route is not open.
                        if deed in world.deeds():
                            world.do(deed)
                    self.assert_come_home(world)

    def test_home_already(self):
        for world in (World(LOOP, (), LIES), World(EMPTY, (), ())):
            before = told(world)
            self.assertEqual(calm_run(world), 0)
            self.assertEqual(told(world), before)
            self.assertEqual(most_rounds(world), 1)
            self.assertEqual(calm_round(world), 0)
        world = World(LINE, FACING, ())
        self.assertGreater(calm_run(world), 0)
        before = told(world)
        self.assertEqual(calm_run(world), 0)
        self.assertEqual(told(world), before)
        world.do(("fall",))
        self.assertEqual(calm_run(world), 0)
        # Nothing was done: the box is still down.
        self.assertIsNone(world.book())
        self.assertEqual(calm_round(world), 2)

    def test_home_is_not_what_the_count_tells(self):
        # Both routes are granted, but t is still on the track.
        world = done(LINE, FACING, (), GO, ("bring", 0), ("in", "t", "west"), ("bring", 1), GO)
        self.assertEqual(world.book()[1], (2, 0))
        self.assertEqual(most_rounds(world), 2 + 1 + 1)
        self.assertEqual(calm_round(world), 1)
        self.assertEqual(calm_run(world), 2)

    def test_trains_that_must_wait_for_each_other(self):
        world = World(HALT, PASSING, tuple((name, "left") for name, kind in HALT[0] if kind == "points"))
        self.assert_come_home(world)


class MostRoundsTest(unittest.TestCase):
    def assert_most(self, world, most):
        before = told(world)
        for _ in range(2):
            self.assertEqual(most_rounds(world), most)
            self.assertEqual(most_rounds(world=world), most)
        self.assertEqual(told(world), before)

    def test_routes_and_works(self):
        world = World(LOOP, BOTH, LIES)
        self.assert_most(world, 5)
        # A route that is granted counts as a work.
        world.do(("order", ("go", "one")))
        self.assert_most(world, 5)
        world.do(("order", ("undo", "one")))
        self.assert_most(world, 5)
        world = World(LINE, FACING, ())
        self.assertEqual(most_rounds(world), 5)
        calm_round(world)
        self.assert_most(world, 4)

    def test_by_the_book_after_the_log(self):
        world = done(LINE, FACING, (), GO, ("fall",))
        self.assert_most(world, 5)
        world = done(LINE, FACING, (), GO, ("bring", 0), ("in", "t", "west"), ("bring", 1), ("fall",))
        self.assert_most(world, 4)
        self.assert_most(done(LINE, FACING, (), ("cut", 0, GO)), 5)


class ReportTest(unittest.TestCase):
    def assert_report(self, world, *lines):
        before = told(world)
        for _ in range(2):
            self.assertEqual(report(world), lines)
            self.assertEqual(report(world=world), lines)
        self.assertEqual(told(world), before)

    def test_each_word(self):
        world = World(LINE, FACING, ())
        other = ("u", "outside", "east")
        self.assert_report(world, ("t", "outside", "west"), other)
        world.do(GO)
        self.assert_report(world, ("t", "under way", "s"), other)
        world.do(("bring", 0))
        world.do(("in", "t", "west"))
        # It has come in, but the box has not been told.
        self.assert_report(world, ("t", "under way", "s"), other)
        world.do(("bring", 1))
        self.assert_report(world, ("t", "standing", "s"), other)
        world.do(GO)
        self.assert_report(world, ("t", "under way", "east"), other)
        world.do(UNDO)
        self.assert_report(world, ("t", "under way", "east"), other)
        calm_round(world)
        calm_round(world)
        self.assert_report(world, ("t", "home", "east"), other)
        calm_run(world)
        self.assert_report(world, ("t", "home", "east"), ("u", "home", "west"))

    def test_sweeping_is_under_way(self):
        world = done(LINE, FACING, (), GO, ("bring", 0), ("in", "t", "west"), ("bring", 1), ("lose", 0), GO, ("bring", 0))
        for deed in (("on", "t"), ("bring", 1), ("tail", "t"), ("on", "t"), ("tail", "t"), ("out", "t")):
            world.do(deed)
        self.assertEqual(world.home(), ("t",))
        self.assertEqual(world.book()[3][0][0], "sweep")
        self.assert_report(world, ("t", "under way", "east"), ("u", "outside", "east"))

    def test_while_the_box_is_down(self):
        world = done(LINE, FACING, (), GO, ("fall",))
        self.assert_report(world, ("t", "under way", "s"), ("u", "outside", "east"))
        world = done(LINE, FACING, (), ("cut", 0, GO))
        self.assert_report(world, ("t", "outside", "west"), ("u", "outside", "east"))
        world = done(LINE, FACING, (), ("cut", 1, GO))
        self.assert_report(world, ("t", "under way", "s"), ("u", "outside", "east"))
        world = done(LINE, FACING, (), GO, ("bring", 0), ("in", "t", "west"), ("bring", 1), ("fall",))
        self.assert_report(world, ("t", "standing", "s"), ("u", "outside", "east"))

    def test_in_the_order_of_the_journeys(self):
        self.assert_report(World(LOOP, LEFT[::-1], LIES), ("two", "outside", "east"), ("one", "outside", "west"))
        self.assert_report(World(LOOP, (), LIES))


class BadWorldsTest(unittest.TestCase):
    def test_other_values(self):
        world = World(LINE, FACING, ())
        for value in (*ANY_VALUES, World, "World", LINE, FACING, told(world), world.book(), (world,), [world], object()):
            for function in CALLS:
                raises(self, function, {"world": value}, BadWorld, value)

    def test_a_world_with_an_accident(self):
        world = done(LINE, FACING, (), GO, ("bring", 0))
        with mock.patch("clearline.worlds.after_move", lambda layout, standing, move: ("meet", "a")):
            self.assertEqual(world.do(("in", "t", "west")), ("meet", "a"))
        before = told(world)
        for function in CALLS:
            raises(self, function, {"world": world}, BadWorld, world)
            self.assertEqual(told(world), before)


if __name__ == "__main__":
    unittest.main()
